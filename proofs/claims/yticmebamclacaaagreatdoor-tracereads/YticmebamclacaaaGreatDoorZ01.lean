/- The errors of package trace: made, and asked for their numbers. -/
import Derived.Shelf.Strings.Builder1
import Derived.Shelf.Small.Wraps
import Derived.Shelf.Strings.BuilderF
import Derived.Shelf.Strings.BuilderK
import Derived.Shelf.Strconv.Itoa0
import Derived.Shelf.Strconv.Itoa1
import Derived.Shelf.LaysM
import Derived.Shelf.Strconv.Itoa2
import Derived.Shelf.Strconv.Itoa3
import Derived.Shelf.Strconv.Itoa4
import Derived.Shelf.Strconv.ParseIntEmpty
import Derived.Shelf.Strconv.Clone
import Derived.Shelf.Strconv.SyntaxError
import Derived.Shelf.LaysC
import Derived.Shelf.Strconv.ToError
import Derived.Shelf.Strconv.Lower
import Derived.Shelf.Strconv.ParseUint10
import Derived.Shelf.Strconv.ParseUint10Empty
import Derived.Shelf.Strconv.ParseUint10Any
import Derived.Shelf.Strconv.ParseInt10
import Derived.Shelf.Strconv.RangeError
import Derived.Shelf.Strconv.ToErrorRange
import Derived.Shelf.Strconv.ParseUintEmpty
import Derived.Shelf.Strconv.ParseUint10b64
import Derived.Shelf.Strconv.ParseUint10b32
import Derived.Shelf.Strconv.ParseUint10b16
import Derived.Shelf.Strconv.ParseUint10b8
import Derived.Shelf.Strconv.ParseUint10At
import Derived.Shelf.Strconv.ParseInt10At64
import Derived.Shelf.Strconv.ParseInt10At32
import Derived.Shelf.Strconv.ParseInt10At16
import Derived.Shelf.Strconv.ParseInt10At8
import Derived.Shelf.Strconv.ParseInt10All
import Derived.Shelf.Strconv.ParseIntPublic10
import Derived.Shelf.Strings.Search1
import Derived.Shelf.Strings.Search2
import Derived.Shelf.Strings.Search3
import Derived.Shelf.Strings.Cut
import Derived.Shelf.Strings.Count
import Derived.Shelf.Strings.Shaped
import Derived.Shelf.Strings.Prefix
import Derived.Shelf.Strings.Split
import Derived.Shelf.Unicode.DecodeSlow
import Derived.Test.YticmebamclacaaaGreatDoorProg
import Derived.Lib.SplitLaws
import Derived.WalkKit
import Derived.Handy
import Derived.Test.YticmebamclacaaaGreatDoorRows
import Derived.WalkSpells
import Derived.WalkLawsBesides
import Derived.BigQuiet
import Derived.Deep.QuietTactic
import Derived.WalkMore
import Derived.ScopeJumps
import Derived.Deep.RegionHeld3
import Derived.LaidEql
import Derived.Stop.Asserts
import Derived.RowKitTokens

namespace Go.Proofs
open Go.Shelf
def Tryz.lays170_ren : Go.Shelf.Ren := ⟨fun | 170 => 62 | n => n, fun | 70 => 59 | 3 => 3 | 0 => 0 | 72 => 62 | 37 => 60 | 5 => 5 | n => n, fun | n => n⟩
theorem Tryz.lays170 : Go.Proofs.Lays.n170 Tryz.prog Tryz.lays170_ren := {
  mixed := by kernel_rfl
  f170 := Tryz.func62.trans (congrArg some (by kernel_rfl))
  t0 := Tryz.underlying0
  a0 := Tryz.isAgg0
  z0 := Tryz.sizeOf0
  v0 := Tryz.zeroValue0
  t3 := Tryz.underlying3
  a3 := Tryz.isAgg3
  z3 := Tryz.sizeOf3
  v3 := Tryz.zeroValue3
  t37 := Tryz.underlying60
  a37 := Tryz.isAgg60
  z37 := Tryz.sizeOf60
  v37 := Tryz.zeroValue60
  t70 := Tryz.underlying59
  a70 := Tryz.isAgg59
  z70 := Tryz.sizeOf59
  v70 := Tryz.zeroValue59
  t72 := Tryz.underlying62
  a72 := Tryz.isAgg62
  z72 := Tryz.sizeOf62
  v72 := Tryz.zeroValue62 }
open Go.RowKit in
theorem Tryz.Builder_Len (B b : Nat) (bs : List Value) (w : World) (h : Lib.IsBuilder 62 5 B b bs w) :
    Calls Tryz.prog 62 #[.pointer (some ⟨b, 0, none⟩)] w fun e w' => e = .returned (.int .i64 bs.length) ∧ w' = w := Any.Builder_Len Tryz.lays170 B b bs w h
def Tryz.lays169_ren : Go.Shelf.Ren := ⟨fun | 169 => 32 | n => n, fun | 70 => 59 | 9 => 9 | 0 => 0 | 72 => 62 | 37 => 60 | 127 => 99 | 3 => 3 | 5 => 5 | n => n, fun | n => n⟩
theorem Tryz.lays169 : Go.Proofs.Lays.n169 Tryz.prog Tryz.lays169_ren := {
  mixed := by kernel_rfl
  f169 := Tryz.func32.trans (congrArg some (by kernel_rfl))
  t0 := Tryz.underlying0
  a0 := Tryz.isAgg0
  z0 := Tryz.sizeOf0
  v0 := Tryz.zeroValue0
  t3 := Tryz.underlying3
  a3 := Tryz.isAgg3
  z3 := Tryz.sizeOf3
  v3 := Tryz.zeroValue3
  t9 := Tryz.underlying9
  a9 := Tryz.isAgg9
  z9 := Tryz.sizeOf9
  v9 := Tryz.zeroValue9
  t37 := Tryz.underlying60
  a37 := Tryz.isAgg60
  z37 := Tryz.sizeOf60
  v37 := Tryz.zeroValue60
  t70 := Tryz.underlying59
  a70 := Tryz.isAgg59
  z70 := Tryz.sizeOf59
  v70 := Tryz.zeroValue59
  t72 := Tryz.underlying62
  a72 := Tryz.isAgg62
  z72 := Tryz.sizeOf62
  v72 := Tryz.zeroValue62
  t127 := Tryz.underlying99
  a127 := Tryz.isAgg99
  z127 := Tryz.sizeOf99
  v127 := Tryz.zeroValue99 }
theorem Tryz.Builder_Extra_169 : Builder.Extra Tryz.prog Tryz.lays169_ren := {
  sizeBuilder := by kernel_rfl
  liesBuilder := by kernel_rfl
  t5 := Tryz.underlying5
  a5 := Tryz.isAgg5
  z5 := Tryz.sizeOf5
  v5 := Tryz.zeroValue5
  infoByte := by kernel_rfl
  cellsByte := by kernel_rfl
  sizeByte := by kernel_rfl
  neB5 := by decide }
open Go.RowKit in
theorem Tryz.Builder_String_any (B b : Nat) (l : List UInt8) (w : World) (h : Lib.IsBuilder 62 5 B b (Lib.byteCells l) w) (hBw : B ≤ w.heap.size) :
    Calls Tryz.prog 32 #[.pointer (some ⟨b, 0, none⟩)] w fun e w' => e = .returned (.string ⟨l.toArray⟩) ∧ Below B w w' := Any.Builder_String_any Tryz.lays169 Tryz.Builder_Extra_169 B b l w h hBw
def Tryz.lays104_ren : Go.Shelf.Ren := ⟨fun | 104 => 168 | 211 => 172 | 207 => 179 | n => n, fun | 9 => 9 | 4 => 4 | 24 => 234 | 3 => 3 | n => n, fun | n => n⟩
theorem Tryz.lays104 : Go.Proofs.Lays.n104 Tryz.prog Tryz.lays104_ren := {
  mixed := by kernel_rfl
  f104 := Tryz.func168.trans (congrArg some (by kernel_rfl))
  f207 := Tryz.func179.trans (congrArg some (by kernel_rfl))
  f211 := Tryz.func172.trans (congrArg some (by kernel_rfl))
  t3 := Tryz.underlying3
  a3 := Tryz.isAgg3
  z3 := Tryz.sizeOf3
  v3 := Tryz.zeroValue3
  t4 := Tryz.underlying4
  a4 := Tryz.isAgg4
  z4 := Tryz.sizeOf4
  v4 := Tryz.zeroValue4
  t9 := Tryz.underlying9
  a9 := Tryz.isAgg9
  z9 := Tryz.sizeOf9
  v9 := Tryz.zeroValue9
  t24 := Tryz.underlying234
  a24 := Tryz.isAgg234
  z24 := Tryz.sizeOf234
  v24 := Tryz.zeroValue234 }
open Go.RowKit in
theorem Tryz.strings_CutSuffix (s p : ByteArray) (w : World) (hs : s.size ≤ 9223372036854775807) :
    Calls Tryz.prog 168 #[.string s, .string p] w fun e w' => e = .returned (.tuple #[.string ⟨(Lib.trimSuffix s.data.toList p.data.toList).toArray⟩, .bool (Lib.hasSuffix s.data.toList p.data.toList)]) ∧ w' = w := Any.strings_CutSuffix Tryz.lays104 s p w hs
def Tryz.laysM173_ren : Go.Shelf.Ren := ⟨fun | 173 => 60 | 246 => 91 | 283 => 108 | 284 => 109 | 285 => 110 | 286 => 111 | 129 => 127 | 317 => 126 | 318 => 128 | 319 => 129 | 320 => 130 | 337 => 155 | 338 => 156 | n => n, fun | 2 => 2 | 3 => 3 | 9 => 9 | 4 => 4 | 171 => 179 | 0 => 0 | 53 => 180 | 37 => 60 | 5 => 5 | 173 => 183 | 212 => 205 | 51 => 206 | 20 => 20 | 213 => 207 | 46 => 209 | 232 => 231 | 233 => 232 | n => n, fun | 17 => 1 | 18 => 5 | 19 => 6 | n => n⟩
theorem Tryz.laysM173 : Go.Proofs.LaysM.n173 Tryz.prog Tryz.laysM173_ren := {
  mixed := by kernel_rfl
  f129 := Tryz.func127.trans (congrArg some (by kernel_rfl))
  f173 := Tryz.func60.trans (congrArg some (by kernel_rfl))
  f246 := Tryz.func91.trans (congrArg some (by kernel_rfl))
  f283 := Tryz.func108.trans (congrArg some (by kernel_rfl))
  f284 := Tryz.func109.trans (congrArg some (by kernel_rfl))
  f285 := Tryz.func110.trans (congrArg some (by kernel_rfl))
  f286 := Tryz.func111.trans (congrArg some (by kernel_rfl))
  f317 := Tryz.func126.trans (congrArg some (by kernel_rfl))
  f318 := Tryz.func128.trans (congrArg some (by kernel_rfl))
  f319 := Tryz.func129.trans (congrArg some (by kernel_rfl))
  f320 := Tryz.func130.trans (congrArg some (by kernel_rfl))
  f337 := Tryz.func155.trans (congrArg some (by kernel_rfl))
  f338 := Tryz.func156.trans (congrArg some (by kernel_rfl))
  t0 := Tryz.underlying0
  a0 := Tryz.isAgg0
  z0 := Tryz.sizeOf0
  v0 := Tryz.zeroValue0
  t2 := Tryz.underlying2
  a2 := Tryz.isAgg2
  z2 := Tryz.sizeOf2
  v2 := Tryz.zeroValue2
  t3 := Tryz.underlying3
  a3 := Tryz.isAgg3
  z3 := Tryz.sizeOf3
  v3 := Tryz.zeroValue3
  t4 := Tryz.underlying4
  a4 := Tryz.isAgg4
  z4 := Tryz.sizeOf4
  v4 := Tryz.zeroValue4
  t5 := Tryz.underlying5
  a5 := Tryz.isAgg5
  z5 := Tryz.sizeOf5
  v5 := Tryz.zeroValue5
  t9 := Tryz.underlying9
  a9 := Tryz.isAgg9
  z9 := Tryz.sizeOf9
  v9 := Tryz.zeroValue9
  t20 := Tryz.underlying20
  a20 := Tryz.isAgg20
  z20 := Tryz.sizeOf20
  v20 := Tryz.zeroValue20
  t37 := Tryz.underlying60
  a37 := Tryz.isAgg60
  z37 := Tryz.sizeOf60
  v37 := Tryz.zeroValue60
  t46 := Tryz.underlying209
  a46 := Tryz.isAgg209
  z46 := Tryz.sizeOf209
  v46 := Tryz.zeroValue209
  t51 := Tryz.underlying206
  a51 := Tryz.isAgg206
  z51 := Tryz.sizeOf206
  v51 := Tryz.zeroValue206
  t53 := Tryz.underlying180
  a53 := Tryz.isAgg180
  z53 := Tryz.sizeOf180
  v53 := Tryz.zeroValue180
  t171 := Tryz.underlying179
  a171 := Tryz.isAgg179
  z171 := Tryz.sizeOf179
  v171 := Tryz.zeroValue179
  t173 := Tryz.underlying183
  a173 := Tryz.isAgg183
  z173 := Tryz.sizeOf183
  v173 := Tryz.zeroValue183
  t212 := Tryz.underlying205
  a212 := Tryz.isAgg205
  z212 := Tryz.sizeOf205
  v212 := Tryz.zeroValue205
  t213 := Tryz.underlying207
  a213 := Tryz.isAgg207
  z213 := Tryz.sizeOf207
  t232 := Tryz.underlying231
  a232 := Tryz.isAgg231
  z232 := Tryz.sizeOf231
  v232 := Tryz.zeroValue231
  t233 := Tryz.underlying232
  a233 := Tryz.isAgg232
  z233 := Tryz.sizeOf232
  v233 := Tryz.zeroValue232
  g17 := by kernel_rfl
  g18 := by kernel_rfl
  g19 := by kernel_rfl
  i0 := by kernel_rfl
  i2 := by kernel_rfl
  i3 := by kernel_rfl
  i4 := by kernel_rfl
  i5 := by kernel_rfl
  i9 := by kernel_rfl
  i20 := by kernel_rfl
  i37 := by kernel_rfl
  i46 := by kernel_rfl
  i51 := by kernel_rfl
  i53 := by kernel_rfl
  i171 := by kernel_rfl
  i173 := by kernel_rfl
  i212 := by kernel_rfl
  i232 := by kernel_rfl
  i233 := by kernel_rfl
  m17 := by kernel_rfl
  m18 := by kernel_rfl
  m19 := by kernel_rfl }
open Go.RowKit Go.Sort Go.Lib in
theorem Tryz.strconv_FormatInt_10 (n : Int) (h0 : -9223372036854775808 ≤ n) (h1 : n ≤ 9223372036854775807) (w : World) (htab : Lib.TabIs Tryz.prog w "internal/strconv.uint64pow10" .u64 Lib.pow10Tab) :
    Calls Tryz.prog 60 #[.int .i64 n, .int .i64 10] w fun e w' => e = .returned (.string ⟨(Lib.itoa n).toArray⟩) ∧ ∃ k os, w' = grow (w.drewN k) os := Any.strconv_FormatInt_10 Tryz.laysM173 n h0 h1 w htab
def Tryz.laysM316_ren : Go.Shelf.Ren := ⟨fun | 316 => 147 | n => n, fun | 9 => 9 | 3 => 3 | 4 => 4 | 37 => 60 | 0 => 0 | 127 => 99 | 5 => 5 | n => n, fun | n => n⟩
theorem Tryz.laysM316 : Go.Proofs.LaysM.n316 Tryz.prog Tryz.laysM316_ren := {
  mixed := by kernel_rfl
  f316 := Tryz.func147.trans (congrArg some (by kernel_rfl))
  t0 := Tryz.underlying0
  a0 := Tryz.isAgg0
  z0 := Tryz.sizeOf0
  v0 := Tryz.zeroValue0
  t3 := Tryz.underlying3
  a3 := Tryz.isAgg3
  z3 := Tryz.sizeOf3
  v3 := Tryz.zeroValue3
  t4 := Tryz.underlying4
  a4 := Tryz.isAgg4
  z4 := Tryz.sizeOf4
  v4 := Tryz.zeroValue4
  t9 := Tryz.underlying9
  a9 := Tryz.isAgg9
  z9 := Tryz.sizeOf9
  v9 := Tryz.zeroValue9
  t37 := Tryz.underlying60
  a37 := Tryz.isAgg60
  z37 := Tryz.sizeOf60
  v37 := Tryz.zeroValue60
  t127 := Tryz.underlying99
  a127 := Tryz.isAgg99
  z127 := Tryz.sizeOf99
  v127 := Tryz.zeroValue99
  t5 := Tryz.underlying5
  a5 := Tryz.isAgg5
  z5 := Tryz.sizeOf5
  v5 := Tryz.zeroValue5
  i0 := by kernel_rfl
  i3 := by kernel_rfl
  i4 := by kernel_rfl
  i5 := by kernel_rfl
  i9 := by kernel_rfl
  i37 := by kernel_rfl
  i127 := by kernel_rfl }
open Go.RowKit in
theorem Tryz.stringslite_Clone (s : ByteArray) (w : World) (hlim : s.size ≤ 281474976710656) :
    Calls Tryz.prog 147 #[.string s] w fun e w' => e = .returned (.string s) ∧ Below w.heap.size w w' := Any.stringslite_Clone Tryz.laysM316 s w hlim
def Tryz.laysC245_ren : Go.Shelf.Ren := ⟨fun | 245 => 171 | 279 => 175 | 280 => 176 | 281 => 177 | 282 => 178 | 316 => 147 | 171 => 183 | 205 => 182 | 243 => 184 | 246 => 91 | 283 => 108 | 284 => 109 | 285 => 110 | 286 => 111 | 129 => 127 | 317 => 126 | 318 => 128 | 319 => 129 | 320 => 130 | 337 => 155 | 338 => 156 | n => n, fun | 9 => 9 | 3 => 3 | 75 => 55 | 167 => 244 | 4 => 4 | 168 => 245 | 210 => 250 | 37 => 60 | 0 => 0 | 127 => 99 | 145 => 254 | 143 => 252 | 2 => 2 | 171 => 179 | 53 => 180 | 5 => 5 | 173 => 183 | 212 => 205 | 51 => 206 | 20 => 20 | 213 => 207 | 46 => 209 | 232 => 231 | 233 => 232 | 80 => 67 | n => n, fun | 15 => 7 | 16 => 8 | 17 => 1 | 18 => 5 | 19 => 6 | n => n⟩
theorem Tryz.laysC245 : Go.Proofs.LaysC.n245 Tryz.prog Tryz.laysC245_ren := {
  mixed := by kernel_rfl
  f129 := Tryz.func127.trans (congrArg some (by kernel_rfl))
  f171 := Tryz.func183.trans (congrArg some (by kernel_rfl))
  f205 := Tryz.func182.trans (congrArg some (by kernel_rfl))
  f243 := Tryz.func184.trans (congrArg some (by kernel_rfl))
  f245 := Tryz.func171.trans (congrArg some (by kernel_rfl))
  f246 := Tryz.func91.trans (congrArg some (by kernel_rfl))
  f279 := Tryz.func175.trans (congrArg some (by kernel_rfl))
  f280 := Tryz.func176.trans (congrArg some (by kernel_rfl))
  f281 := Tryz.func177.trans (congrArg some (by kernel_rfl))
  f282 := Tryz.func178.trans (congrArg some (by kernel_rfl))
  f283 := Tryz.func108.trans (congrArg some (by kernel_rfl))
  f284 := Tryz.func109.trans (congrArg some (by kernel_rfl))
  f285 := Tryz.func110.trans (congrArg some (by kernel_rfl))
  f286 := Tryz.func111.trans (congrArg some (by kernel_rfl))
  f316 := Tryz.func147.trans (congrArg some (by kernel_rfl))
  f317 := Tryz.func126.trans (congrArg some (by kernel_rfl))
  f318 := Tryz.func128.trans (congrArg some (by kernel_rfl))
  f319 := Tryz.func129.trans (congrArg some (by kernel_rfl))
  f320 := Tryz.func130.trans (congrArg some (by kernel_rfl))
  f337 := Tryz.func155.trans (congrArg some (by kernel_rfl))
  f338 := Tryz.func156.trans (congrArg some (by kernel_rfl))
  t0 := Tryz.underlying0
  a0 := Tryz.isAgg0
  z0 := Tryz.sizeOf0
  v0 := Tryz.zeroValue0
  t2 := Tryz.underlying2
  a2 := Tryz.isAgg2
  z2 := Tryz.sizeOf2
  v2 := Tryz.zeroValue2
  t3 := Tryz.underlying3
  a3 := Tryz.isAgg3
  z3 := Tryz.sizeOf3
  v3 := Tryz.zeroValue3
  t4 := Tryz.underlying4
  a4 := Tryz.isAgg4
  z4 := Tryz.sizeOf4
  v4 := Tryz.zeroValue4
  t5 := Tryz.underlying5
  a5 := Tryz.isAgg5
  z5 := Tryz.sizeOf5
  v5 := Tryz.zeroValue5
  t9 := Tryz.underlying9
  a9 := Tryz.isAgg9
  z9 := Tryz.sizeOf9
  v9 := Tryz.zeroValue9
  t20 := Tryz.underlying20
  a20 := Tryz.isAgg20
  z20 := Tryz.sizeOf20
  v20 := Tryz.zeroValue20
  t37 := Tryz.underlying60
  a37 := Tryz.isAgg60
  z37 := Tryz.sizeOf60
  v37 := Tryz.zeroValue60
  t46 := Tryz.underlying209
  a46 := Tryz.isAgg209
  z46 := Tryz.sizeOf209
  v46 := Tryz.zeroValue209
  t51 := Tryz.underlying206
  a51 := Tryz.isAgg206
  z51 := Tryz.sizeOf206
  v51 := Tryz.zeroValue206
  t53 := Tryz.underlying180
  a53 := Tryz.isAgg180
  z53 := Tryz.sizeOf180
  v53 := Tryz.zeroValue180
  t75 := Tryz.underlying55
  a75 := Tryz.isAgg55
  z75 := Tryz.sizeOf55
  v75 := Tryz.zeroValue55
  t127 := Tryz.underlying99
  a127 := Tryz.isAgg99
  z127 := Tryz.sizeOf99
  v127 := Tryz.zeroValue99
  t143 := Tryz.underlying252
  a143 := Tryz.isAgg252
  z143 := Tryz.sizeOf252
  v143 := Tryz.zeroValue252
  t145 := Tryz.underlying254
  a145 := Tryz.isAgg254
  z145 := Tryz.sizeOf254
  v145 := Tryz.zeroValue254
  t167 := Tryz.underlying244
  a167 := Tryz.isAgg244
  z167 := Tryz.sizeOf244
  v167 := Tryz.zeroValue244
  t168 := Tryz.underlying245
  a168 := Tryz.isAgg245
  z168 := Tryz.sizeOf245
  v168 := Tryz.zeroValue245
  t171 := Tryz.underlying179
  a171 := Tryz.isAgg179
  z171 := Tryz.sizeOf179
  v171 := Tryz.zeroValue179
  t173 := Tryz.underlying183
  a173 := Tryz.isAgg183
  z173 := Tryz.sizeOf183
  v173 := Tryz.zeroValue183
  t210 := Tryz.underlying250
  a210 := Tryz.isAgg250
  z210 := Tryz.sizeOf250
  v210 := Tryz.zeroValue250
  t212 := Tryz.underlying205
  a212 := Tryz.isAgg205
  z212 := Tryz.sizeOf205
  v212 := Tryz.zeroValue205
  t213 := Tryz.underlying207
  a213 := Tryz.isAgg207
  z213 := Tryz.sizeOf207
  t232 := Tryz.underlying231
  a232 := Tryz.isAgg231
  z232 := Tryz.sizeOf231
  v232 := Tryz.zeroValue231
  t233 := Tryz.underlying232
  a233 := Tryz.isAgg232
  z233 := Tryz.sizeOf232
  v233 := Tryz.zeroValue232
  g15 := by kernel_rfl
  g16 := by kernel_rfl
  g17 := by kernel_rfl
  g18 := by kernel_rfl
  g19 := by kernel_rfl
  t80 := Tryz.underlying67
  a80 := Tryz.isAgg67
  z80 := Tryz.sizeOf67
  v80 := Tryz.zeroValue67
  i0 := by kernel_rfl
  i2 := by kernel_rfl
  i3 := by kernel_rfl
  i4 := by kernel_rfl
  i5 := by kernel_rfl
  i9 := by kernel_rfl
  i20 := by kernel_rfl
  i37 := by kernel_rfl
  i46 := by kernel_rfl
  i51 := by kernel_rfl
  i53 := by kernel_rfl
  i75 := by kernel_rfl
  i80 := by kernel_rfl
  i127 := by kernel_rfl
  i143 := by kernel_rfl
  i145 := by kernel_rfl
  i167 := by kernel_rfl
  i168 := by kernel_rfl
  i171 := by kernel_rfl
  i173 := by kernel_rfl
  i210 := by kernel_rfl
  i212 := by kernel_rfl
  i232 := by kernel_rfl
  i233 := by kernel_rfl
  m15 := by kernel_rfl
  m16 := by kernel_rfl
  m17 := by kernel_rfl
  m18 := by kernel_rfl
  m19 := by kernel_rfl
  c0 := by kernel_rfl
  c2 := by kernel_rfl
  c3 := by kernel_rfl
  c4 := by kernel_rfl
  c5 := by kernel_rfl
  c9 := by kernel_rfl
  c20 := by kernel_rfl
  c37 := by kernel_rfl
  c46 := by kernel_rfl
  c51 := by kernel_rfl
  c53 := by kernel_rfl
  c75 := by kernel_rfl
  c80 := by kernel_rfl
  c127 := by kernel_rfl
  c143 := by kernel_rfl
  c145 := by kernel_rfl
  c167 := by kernel_rfl
  c168 := by kernel_rfl
  c171 := by kernel_rfl
  c173 := by kernel_rfl
  c210 := by kernel_rfl
  c212 := by kernel_rfl
  c213 := by kernel_rfl
  c232 := by kernel_rfl
  c233 := by kernel_rfl }
open Go.RowKit in
theorem Tryz.strconv_toError_syntax (fn s : ByteArray) (base bits : Int) (ev : Value) (w : World) (hlim : s.size ≤ 281474976710656) (hv : w.cell? ⟨7, 0, none⟩ = some ev) (hev : ev = .nilIface ∨ ∃ te pe, ev = .iface te pe) :
    Calls Tryz.prog 171 #[.string fn, .string s, .int .i64 base, .int .i64 bits, .iface 244 (.int .i64 2)] w fun e w' => ∃ N, e = .returned (.iface 245 (.pointer (some ⟨N, 0, none⟩))) ∧ w.heap.size ≤ N ∧ w'.heap[N]? = some (.cells #[.string fn, .string s, ev] 250 (0, 0)) ∧ Below w.heap.size w w' := Any.strconv_toError_syntax Tryz.laysC245 fn s base bits ev w hlim hv hev
def Tryz.lays321_ren : Go.Shelf.Ren := ⟨fun | 321 => 180 | n => n, fun | 5 => 5 | n => n, fun | n => n⟩
theorem Tryz.lays321 : Go.Proofs.Lays.n321 Tryz.prog Tryz.lays321_ren := {
  mixed := by kernel_rfl
  f321 := Tryz.func180.trans (congrArg some (by kernel_rfl))
  t5 := Tryz.underlying5
  a5 := Tryz.isAgg5
  z5 := Tryz.sizeOf5
  v5 := Tryz.zeroValue5 }
open Go.RowKit in
theorem Tryz.internal_strconv_lower (c : Int) (w : World) :
    Calls Tryz.prog 180 #[.int .u8 c] w fun e w' => e = .returned (.int .u8 (bits .or .u8 c 32)) ∧ w' = w := Any.internal_strconv_lower Tryz.lays321 c w
def Tryz.laysC174_ren : Go.Shelf.Ren := ⟨fun | 174 => 166 | 247 => 170 | 245 => 171 | 287 => 174 | 279 => 175 | 280 => 176 | 281 => 177 | 282 => 178 | 321 => 180 | 322 => 181 | 316 => 147 | 171 => 183 | 205 => 182 | 243 => 184 | 246 => 91 | 283 => 108 | 284 => 109 | 285 => 110 | 286 => 111 | 129 => 127 | 317 => 126 | 318 => 128 | 319 => 129 | 320 => 130 | 337 => 155 | 338 => 156 | n => n, fun | 9 => 9 | 3 => 3 | 2 => 2 | 75 => 55 | 85 => 236 | 4 => 4 | 167 => 244 | 5 => 5 | 53 => 180 | 175 => 242 | 46 => 209 | 168 => 245 | 37 => 60 | 0 => 0 | 210 => 250 | 21 => 21 | 127 => 99 | 145 => 254 | 143 => 252 | 171 => 179 | 173 => 183 | 212 => 205 | 51 => 206 | 20 => 20 | 213 => 207 | 232 => 231 | 233 => 232 | 80 => 67 | n => n, fun | 15 => 7 | 16 => 8 | 17 => 1 | 18 => 5 | 19 => 6 | n => n⟩
theorem Tryz.laysC174 : Go.Proofs.LaysC.n174 Tryz.prog Tryz.laysC174_ren := {
  mixed := by kernel_rfl
  f129 := Tryz.func127.trans (congrArg some (by kernel_rfl))
  f171 := Tryz.func183.trans (congrArg some (by kernel_rfl))
  f174 := Tryz.func166.trans (congrArg some (by kernel_rfl))
  f205 := Tryz.func182.trans (congrArg some (by kernel_rfl))
  f243 := Tryz.func184.trans (congrArg some (by kernel_rfl))
  f245 := Tryz.func171.trans (congrArg some (by kernel_rfl))
  f246 := Tryz.func91.trans (congrArg some (by kernel_rfl))
  f247 := Tryz.func170.trans (congrArg some (by kernel_rfl))
  f279 := Tryz.func175.trans (congrArg some (by kernel_rfl))
  f280 := Tryz.func176.trans (congrArg some (by kernel_rfl))
  f281 := Tryz.func177.trans (congrArg some (by kernel_rfl))
  f282 := Tryz.func178.trans (congrArg some (by kernel_rfl))
  f283 := Tryz.func108.trans (congrArg some (by kernel_rfl))
  f284 := Tryz.func109.trans (congrArg some (by kernel_rfl))
  f285 := Tryz.func110.trans (congrArg some (by kernel_rfl))
  f286 := Tryz.func111.trans (congrArg some (by kernel_rfl))
  f287 := Tryz.func174.trans (congrArg some (by kernel_rfl))
  f316 := Tryz.func147.trans (congrArg some (by kernel_rfl))
  f317 := Tryz.func126.trans (congrArg some (by kernel_rfl))
  f318 := Tryz.func128.trans (congrArg some (by kernel_rfl))
  f319 := Tryz.func129.trans (congrArg some (by kernel_rfl))
  f320 := Tryz.func130.trans (congrArg some (by kernel_rfl))
  f321 := Tryz.func180.trans (congrArg some (by kernel_rfl))
  f322 := Tryz.func181.trans (congrArg some (by kernel_rfl))
  f337 := Tryz.func155.trans (congrArg some (by kernel_rfl))
  f338 := Tryz.func156.trans (congrArg some (by kernel_rfl))
  t0 := Tryz.underlying0
  a0 := Tryz.isAgg0
  z0 := Tryz.sizeOf0
  v0 := Tryz.zeroValue0
  t2 := Tryz.underlying2
  a2 := Tryz.isAgg2
  z2 := Tryz.sizeOf2
  v2 := Tryz.zeroValue2
  t3 := Tryz.underlying3
  a3 := Tryz.isAgg3
  z3 := Tryz.sizeOf3
  v3 := Tryz.zeroValue3
  t4 := Tryz.underlying4
  a4 := Tryz.isAgg4
  z4 := Tryz.sizeOf4
  v4 := Tryz.zeroValue4
  t5 := Tryz.underlying5
  a5 := Tryz.isAgg5
  z5 := Tryz.sizeOf5
  v5 := Tryz.zeroValue5
  t9 := Tryz.underlying9
  a9 := Tryz.isAgg9
  z9 := Tryz.sizeOf9
  v9 := Tryz.zeroValue9
  t20 := Tryz.underlying20
  a20 := Tryz.isAgg20
  z20 := Tryz.sizeOf20
  v20 := Tryz.zeroValue20
  t21 := Tryz.underlying21
  a21 := Tryz.isAgg21
  z21 := Tryz.sizeOf21
  v21 := Tryz.zeroValue21
  t37 := Tryz.underlying60
  a37 := Tryz.isAgg60
  z37 := Tryz.sizeOf60
  v37 := Tryz.zeroValue60
  t46 := Tryz.underlying209
  a46 := Tryz.isAgg209
  z46 := Tryz.sizeOf209
  v46 := Tryz.zeroValue209
  t51 := Tryz.underlying206
  a51 := Tryz.isAgg206
  z51 := Tryz.sizeOf206
  v51 := Tryz.zeroValue206
  t53 := Tryz.underlying180
  a53 := Tryz.isAgg180
  z53 := Tryz.sizeOf180
  v53 := Tryz.zeroValue180
  t75 := Tryz.underlying55
  a75 := Tryz.isAgg55
  z75 := Tryz.sizeOf55
  v75 := Tryz.zeroValue55
  t85 := Tryz.underlying236
  a85 := Tryz.isAgg236
  z85 := Tryz.sizeOf236
  v85 := Tryz.zeroValue236
  t127 := Tryz.underlying99
  a127 := Tryz.isAgg99
  z127 := Tryz.sizeOf99
  v127 := Tryz.zeroValue99
  t143 := Tryz.underlying252
  a143 := Tryz.isAgg252
  z143 := Tryz.sizeOf252
  v143 := Tryz.zeroValue252
  t145 := Tryz.underlying254
  a145 := Tryz.isAgg254
  z145 := Tryz.sizeOf254
  v145 := Tryz.zeroValue254
  t167 := Tryz.underlying244
  a167 := Tryz.isAgg244
  z167 := Tryz.sizeOf244
  v167 := Tryz.zeroValue244
  t168 := Tryz.underlying245
  a168 := Tryz.isAgg245
  z168 := Tryz.sizeOf245
  v168 := Tryz.zeroValue245
  t171 := Tryz.underlying179
  a171 := Tryz.isAgg179
  z171 := Tryz.sizeOf179
  v171 := Tryz.zeroValue179
  t173 := Tryz.underlying183
  a173 := Tryz.isAgg183
  z173 := Tryz.sizeOf183
  v173 := Tryz.zeroValue183
  t175 := Tryz.underlying242
  a175 := Tryz.isAgg242
  z175 := Tryz.sizeOf242
  v175 := Tryz.zeroValue242
  t210 := Tryz.underlying250
  a210 := Tryz.isAgg250
  z210 := Tryz.sizeOf250
  v210 := Tryz.zeroValue250
  t212 := Tryz.underlying205
  a212 := Tryz.isAgg205
  z212 := Tryz.sizeOf205
  v212 := Tryz.zeroValue205
  t213 := Tryz.underlying207
  a213 := Tryz.isAgg207
  z213 := Tryz.sizeOf207
  t232 := Tryz.underlying231
  a232 := Tryz.isAgg231
  z232 := Tryz.sizeOf231
  v232 := Tryz.zeroValue231
  t233 := Tryz.underlying232
  a233 := Tryz.isAgg232
  z233 := Tryz.sizeOf232
  v233 := Tryz.zeroValue232
  g15 := by kernel_rfl
  g16 := by kernel_rfl
  g17 := by kernel_rfl
  g18 := by kernel_rfl
  g19 := by kernel_rfl
  t80 := Tryz.underlying67
  a80 := Tryz.isAgg67
  z80 := Tryz.sizeOf67
  v80 := Tryz.zeroValue67
  i0 := by kernel_rfl
  i2 := by kernel_rfl
  i3 := by kernel_rfl
  i4 := by kernel_rfl
  i5 := by kernel_rfl
  i9 := by kernel_rfl
  i20 := by kernel_rfl
  i21 := by kernel_rfl
  i37 := by kernel_rfl
  i46 := by kernel_rfl
  i51 := by kernel_rfl
  i53 := by kernel_rfl
  i75 := by kernel_rfl
  i80 := by kernel_rfl
  i85 := by kernel_rfl
  i127 := by kernel_rfl
  i143 := by kernel_rfl
  i145 := by kernel_rfl
  i167 := by kernel_rfl
  i168 := by kernel_rfl
  i171 := by kernel_rfl
  i173 := by kernel_rfl
  i175 := by kernel_rfl
  i210 := by kernel_rfl
  i212 := by kernel_rfl
  i232 := by kernel_rfl
  i233 := by kernel_rfl
  m15 := by kernel_rfl
  m16 := by kernel_rfl
  m17 := by kernel_rfl
  m18 := by kernel_rfl
  m19 := by kernel_rfl
  c0 := by kernel_rfl
  c2 := by kernel_rfl
  c3 := by kernel_rfl
  c4 := by kernel_rfl
  c5 := by kernel_rfl
  c9 := by kernel_rfl
  c20 := by kernel_rfl
  c21 := by kernel_rfl
  c37 := by kernel_rfl
  c46 := by kernel_rfl
  c51 := by kernel_rfl
  c53 := by kernel_rfl
  c75 := by kernel_rfl
  c80 := by kernel_rfl
  c85 := by kernel_rfl
  c127 := by kernel_rfl
  c143 := by kernel_rfl
  c145 := by kernel_rfl
  c167 := by kernel_rfl
  c168 := by kernel_rfl
  c171 := by kernel_rfl
  c173 := by kernel_rfl
  c175 := by kernel_rfl
  c210 := by kernel_rfl
  c212 := by kernel_rfl
  c213 := by kernel_rfl
  c232 := by kernel_rfl
  c233 := by kernel_rfl }
open Go.RowKit in
theorem Tryz.strconv_ParseInt_10_at64_ok (s : ByteArray) (hmax : s.size ≤ 9223372036854775806) (v : Int) (h : Lib.parseIntB 64 s.data.toList = .ok v) (w : World) :
    Calls Tryz.prog 166 #[.string s, .int .i64 10, .int .i64 64] w fun e w' => e = .returned (.tuple #[.int .i64 v, .nilIface]) ∧ (w' = w ∨ ∃ t, w' = Lib.bytesWorld w 5 t) := Any.strconv_ParseInt_10_at64_ok Tryz.laysC174 s hmax v h w
open Go.RowKit in
theorem Tryz.strconv_ParseInt_10_at64_syntax (s : ByteArray) (hlim : s.size ≤ 281474976710656) (h : Lib.parseIntB 64 s.data.toList = .«syntax») (ev : Value) (w : World) (hv : w.cell? ⟨7, 0, none⟩ = some ev) (hev : ev = .nilIface ∨ ∃ te pe, ev = .iface te pe) :
    Calls Tryz.prog 166 #[.string s, .int .i64 10, .int .i64 64] w fun e w' => ∃ N, e = .returned (.tuple #[.int .i64 (0), .iface 245 (.pointer (some ⟨N, 0, none⟩))]) ∧ w.heap.size ≤ N ∧ w'.heap[N]? = some (.cells #[.string ⟨#[80, 97, 114, 115, 101, 73, 110, 116]⟩, .string s, ev] 250 (0, 0)) ∧ Below w.heap.size w w' := Any.strconv_ParseInt_10_at64_syntax Tryz.laysC174 s hlim h ev w hv hev
open Go.RowKit in
theorem Tryz.strconv_ParseInt_10_at64_range (s : ByteArray) (hlim : s.size ≤ 281474976710656) (h : Lib.parseIntB 64 s.data.toList = .range) (ev : Value) (w : World) (hv : w.cell? ⟨8, 0, none⟩ = some ev) (hev : ev = .nilIface ∨ ∃ te pe, ev = .iface te pe) :
    Calls Tryz.prog 166 #[.string s, .int .i64 10, .int .i64 64] w fun e w' => ∃ N, e = .returned (.tuple #[.int .i64 (Lib.intSat 64 s.data.toList), .iface 245 (.pointer (some ⟨N, 0, none⟩))]) ∧ w.heap.size ≤ N ∧ w'.heap[N]? = some (.cells #[.string ⟨#[80, 97, 114, 115, 101, 73, 110, 116]⟩, .string s, ev] 250 (0, 0)) ∧ Below w.heap.size w w' := Any.strconv_ParseInt_10_at64_range Tryz.laysC174 s hlim h ev w hv hev
def Tryz.lays219_ren : Go.Shelf.Ren := ⟨fun | 219 => 117 | 217 => 137 | 225 => 138 | 224 => 139 | 267 => 140 | 266 => 157 | 314 => 158 | n => n, fun | 9 => 9 | 3 => 3 | 4 => 4 | 5 => 5 | 46 => 209 | 146 => 227 | 51 => 206 | n => n, fun | 1 => 2 | n => n⟩
theorem Tryz.lays219 : Go.Proofs.Lays.n219 Tryz.prog Tryz.lays219_ren := {
  mixed := by kernel_rfl
  f217 := Tryz.func137.trans (congrArg some (by kernel_rfl))
  f219 := Tryz.func117.trans (congrArg some (by kernel_rfl))
  f224 := Tryz.func139.trans (congrArg some (by kernel_rfl))
  f225 := Tryz.func138.trans (congrArg some (by kernel_rfl))
  f266 := Tryz.func157.trans (congrArg some (by kernel_rfl))
  f267 := Tryz.func140.trans (congrArg some (by kernel_rfl))
  f314 := Tryz.func158.trans (congrArg some (by kernel_rfl))
  t3 := Tryz.underlying3
  a3 := Tryz.isAgg3
  z3 := Tryz.sizeOf3
  v3 := Tryz.zeroValue3
  t4 := Tryz.underlying4
  a4 := Tryz.isAgg4
  z4 := Tryz.sizeOf4
  v4 := Tryz.zeroValue4
  t5 := Tryz.underlying5
  a5 := Tryz.isAgg5
  z5 := Tryz.sizeOf5
  v5 := Tryz.zeroValue5
  t9 := Tryz.underlying9
  a9 := Tryz.isAgg9
  z9 := Tryz.sizeOf9
  v9 := Tryz.zeroValue9
  t46 := Tryz.underlying209
  a46 := Tryz.isAgg209
  z46 := Tryz.sizeOf209
  v46 := Tryz.zeroValue209
  t51 := Tryz.underlying206
  a51 := Tryz.isAgg206
  z51 := Tryz.sizeOf206
  v51 := Tryz.zeroValue206
  t146 := Tryz.underlying227
  a146 := Tryz.isAgg227
  z146 := Tryz.sizeOf227
  v146 := Tryz.zeroValue227
  g1 := by kernel_rfl }
open Go.RowKit Go.Lib in
theorem Tryz.stringslite_Index_one (s : ByteArray) (c : UInt8) (w : World) :
    Calls Tryz.prog 117 #[.string s, .string ⟨#[c]⟩] w fun e w' => e = .returned (.int .i64 (Lib.indexByte s.data.toList c)) ∧ w' = w := Any.stringslite_Index_one Tryz.lays219 s c w
def Tryz.lays143_ren : Go.Shelf.Ren := ⟨fun | 143 => 103 | 219 => 117 | 217 => 137 | 225 => 138 | 224 => 139 | 267 => 140 | 266 => 157 | 314 => 158 | n => n, fun | 9 => 9 | 3 => 3 | 4 => 4 | 5 => 5 | 46 => 209 | 146 => 227 | 51 => 206 | n => n, fun | 1 => 2 | n => n⟩
theorem Tryz.lays143 : Go.Proofs.Lays.n143 Tryz.prog Tryz.lays143_ren := {
  mixed := by kernel_rfl
  f143 := Tryz.func103.trans (congrArg some (by kernel_rfl))
  f217 := Tryz.func137.trans (congrArg some (by kernel_rfl))
  f219 := Tryz.func117.trans (congrArg some (by kernel_rfl))
  f224 := Tryz.func139.trans (congrArg some (by kernel_rfl))
  f225 := Tryz.func138.trans (congrArg some (by kernel_rfl))
  f266 := Tryz.func157.trans (congrArg some (by kernel_rfl))
  f267 := Tryz.func140.trans (congrArg some (by kernel_rfl))
  f314 := Tryz.func158.trans (congrArg some (by kernel_rfl))
  t3 := Tryz.underlying3
  a3 := Tryz.isAgg3
  z3 := Tryz.sizeOf3
  v3 := Tryz.zeroValue3
  t4 := Tryz.underlying4
  a4 := Tryz.isAgg4
  z4 := Tryz.sizeOf4
  v4 := Tryz.zeroValue4
  t5 := Tryz.underlying5
  a5 := Tryz.isAgg5
  z5 := Tryz.sizeOf5
  v5 := Tryz.zeroValue5
  t9 := Tryz.underlying9
  a9 := Tryz.isAgg9
  z9 := Tryz.sizeOf9
  v9 := Tryz.zeroValue9
  t46 := Tryz.underlying209
  a46 := Tryz.isAgg209
  z46 := Tryz.sizeOf209
  v46 := Tryz.zeroValue209
  t51 := Tryz.underlying206
  a51 := Tryz.isAgg206
  z51 := Tryz.sizeOf206
  v51 := Tryz.zeroValue206
  t146 := Tryz.underlying227
  a146 := Tryz.isAgg227
  z146 := Tryz.sizeOf227
  v146 := Tryz.zeroValue227
  g1 := by kernel_rfl }
open Go.RowKit Go.Lib in
theorem Tryz.strings_Index_one (s : ByteArray) (c : UInt8) (w : World) :
    Calls Tryz.prog 103 #[.string s, .string ⟨#[c]⟩] w fun e w' => e = .returned (.int .i64 (Lib.indexByte s.data.toList c)) ∧ w' = w := Any.strings_Index_one Tryz.lays143 s c w
def Tryz.lays138_ren : Go.Shelf.Ren := ⟨fun | 138 => 102 | 195 => 114 | 218 => 116 | 143 => 103 | 219 => 117 | 217 => 137 | 225 => 138 | 224 => 139 | 267 => 140 | 266 => 157 | 314 => 158 | n => n, fun | 9 => 9 | 3 => 3 | 4 => 4 | 5 => 5 | 0 => 0 | 46 => 209 | 146 => 227 | 51 => 206 | n => n, fun | 1 => 2 | n => n⟩
theorem Tryz.lays138 : Go.Proofs.Lays.n138 Tryz.prog Tryz.lays138_ren := {
  mixed := by kernel_rfl
  f138 := Tryz.func102.trans (congrArg some (by kernel_rfl))
  f143 := Tryz.func103.trans (congrArg some (by kernel_rfl))
  f195 := Tryz.func114.trans (congrArg some (by kernel_rfl))
  f217 := Tryz.func137.trans (congrArg some (by kernel_rfl))
  f218 := Tryz.func116.trans (congrArg some (by kernel_rfl))
  f219 := Tryz.func117.trans (congrArg some (by kernel_rfl))
  f224 := Tryz.func139.trans (congrArg some (by kernel_rfl))
  f225 := Tryz.func138.trans (congrArg some (by kernel_rfl))
  f266 := Tryz.func157.trans (congrArg some (by kernel_rfl))
  f267 := Tryz.func140.trans (congrArg some (by kernel_rfl))
  f314 := Tryz.func158.trans (congrArg some (by kernel_rfl))
  t0 := Tryz.underlying0
  a0 := Tryz.isAgg0
  z0 := Tryz.sizeOf0
  v0 := Tryz.zeroValue0
  t3 := Tryz.underlying3
  a3 := Tryz.isAgg3
  z3 := Tryz.sizeOf3
  v3 := Tryz.zeroValue3
  t4 := Tryz.underlying4
  a4 := Tryz.isAgg4
  z4 := Tryz.sizeOf4
  v4 := Tryz.zeroValue4
  t5 := Tryz.underlying5
  a5 := Tryz.isAgg5
  z5 := Tryz.sizeOf5
  v5 := Tryz.zeroValue5
  t9 := Tryz.underlying9
  a9 := Tryz.isAgg9
  z9 := Tryz.sizeOf9
  v9 := Tryz.zeroValue9
  t46 := Tryz.underlying209
  a46 := Tryz.isAgg209
  z46 := Tryz.sizeOf209
  v46 := Tryz.zeroValue209
  t51 := Tryz.underlying206
  a51 := Tryz.isAgg206
  z51 := Tryz.sizeOf206
  v51 := Tryz.zeroValue206
  t146 := Tryz.underlying227
  a146 := Tryz.isAgg227
  z146 := Tryz.sizeOf227
  v146 := Tryz.zeroValue227
  g1 := by kernel_rfl }
open Go.RowKit Go.Lib in
theorem Tryz.strings_Count_one (s : ByteArray) (c : UInt8) (w : World) :
    Calls Tryz.prog 102 #[.string s, .string ⟨#[c]⟩] w fun e w' => e = .returned (.int .i64 (Lib.countByte s.data.toList c)) ∧ w' = w := Any.strings_Count_one Tryz.lays138 s c w
def Tryz.lays99_ren : Go.Shelf.Ren := ⟨fun | 99 => 164 | 206 => 167 | n => n, fun | 9 => 9 | 4 => 4 | 3 => 3 | n => n, fun | n => n⟩
theorem Tryz.lays99 : Go.Proofs.Lays.n99 Tryz.prog Tryz.lays99_ren := {
  mixed := by kernel_rfl
  f99 := Tryz.func164.trans (congrArg some (by kernel_rfl))
  f206 := Tryz.func167.trans (congrArg some (by kernel_rfl))
  t3 := Tryz.underlying3
  a3 := Tryz.isAgg3
  z3 := Tryz.sizeOf3
  v3 := Tryz.zeroValue3
  t4 := Tryz.underlying4
  a4 := Tryz.isAgg4
  z4 := Tryz.sizeOf4
  v4 := Tryz.zeroValue4
  t9 := Tryz.underlying9
  a9 := Tryz.isAgg9
  z9 := Tryz.sizeOf9
  v9 := Tryz.zeroValue9 }
open Go.RowKit Go.Lib in
theorem Tryz.strings_HasPrefix (s p : ByteArray) (w : World) :
    Calls Tryz.prog 164 #[.string s, .string p] w fun e w' => e = .returned (.bool (Lib.hasPrefix s.data.toList p.data.toList)) ∧ w' = w := Any.strings_HasPrefix Tryz.lays99 s p w
def Tryz.lays221_ren : Go.Shelf.Ren := ⟨fun | 221 => 75 | 268 => 101 | 138 => 102 | 143 => 103 | 195 => 114 | 197 => 115 | 218 => 116 | 219 => 117 | 260 => 136 | 217 => 137 | 225 => 138 | 224 => 139 | 267 => 140 | 266 => 157 | 314 => 158 | n => n, fun | 9 => 9 | 3 => 3 | 31 => 68 | 4 => 4 | 0 => 0 | 105 => 189 | 21 => 21 | 5 => 5 | 46 => 209 | 119 => 223 | 139 => 226 | 138 => 225 | 146 => 227 | 51 => 206 | n => n, fun | 1 => 2 | 3 => 3 | 4 => 4 | n => n⟩
theorem Tryz.lays221 : Go.Proofs.Lays.n221 Tryz.prog Tryz.lays221_ren := {
  mixed := by kernel_rfl
  f138 := Tryz.func102.trans (congrArg some (by kernel_rfl))
  f143 := Tryz.func103.trans (congrArg some (by kernel_rfl))
  f195 := Tryz.func114.trans (congrArg some (by kernel_rfl))
  f197 := Tryz.func115.trans (congrArg some (by kernel_rfl))
  f217 := Tryz.func137.trans (congrArg some (by kernel_rfl))
  f218 := Tryz.func116.trans (congrArg some (by kernel_rfl))
  f219 := Tryz.func117.trans (congrArg some (by kernel_rfl))
  f221 := Tryz.func75.trans (congrArg some (by kernel_rfl))
  f224 := Tryz.func139.trans (congrArg some (by kernel_rfl))
  f225 := Tryz.func138.trans (congrArg some (by kernel_rfl))
  f260 := Tryz.func136.trans (congrArg some (by kernel_rfl))
  f266 := Tryz.func157.trans (congrArg some (by kernel_rfl))
  f267 := Tryz.func140.trans (congrArg some (by kernel_rfl))
  f268 := Tryz.func101.trans (congrArg some (by kernel_rfl))
  f314 := Tryz.func158.trans (congrArg some (by kernel_rfl))
  t0 := Tryz.underlying0
  a0 := Tryz.isAgg0
  z0 := Tryz.sizeOf0
  v0 := Tryz.zeroValue0
  t3 := Tryz.underlying3
  a3 := Tryz.isAgg3
  z3 := Tryz.sizeOf3
  v3 := Tryz.zeroValue3
  t4 := Tryz.underlying4
  a4 := Tryz.isAgg4
  z4 := Tryz.sizeOf4
  v4 := Tryz.zeroValue4
  t5 := Tryz.underlying5
  a5 := Tryz.isAgg5
  z5 := Tryz.sizeOf5
  v5 := Tryz.zeroValue5
  t9 := Tryz.underlying9
  a9 := Tryz.isAgg9
  z9 := Tryz.sizeOf9
  v9 := Tryz.zeroValue9
  t21 := Tryz.underlying21
  a21 := Tryz.isAgg21
  z21 := Tryz.sizeOf21
  v21 := Tryz.zeroValue21
  t31 := Tryz.underlying68
  a31 := Tryz.isAgg68
  z31 := Tryz.sizeOf68
  v31 := Tryz.zeroValue68
  t46 := Tryz.underlying209
  a46 := Tryz.isAgg209
  z46 := Tryz.sizeOf209
  v46 := Tryz.zeroValue209
  t51 := Tryz.underlying206
  a51 := Tryz.isAgg206
  z51 := Tryz.sizeOf206
  v51 := Tryz.zeroValue206
  t105 := Tryz.underlying189
  a105 := Tryz.isAgg189
  z105 := Tryz.sizeOf189
  v105 := Tryz.zeroValue189
  t119 := Tryz.underlying223
  a119 := Tryz.isAgg223
  z119 := Tryz.sizeOf223
  t138 := Tryz.underlying225
  a138 := Tryz.isAgg225
  z138 := Tryz.sizeOf225
  v138 := Tryz.zeroValue225
  t139 := Tryz.underlying226
  a139 := Tryz.isAgg226
  z139 := Tryz.sizeOf226
  v139 := Tryz.zeroValue226
  t146 := Tryz.underlying227
  a146 := Tryz.isAgg227
  z146 := Tryz.sizeOf227
  v146 := Tryz.zeroValue227
  g1 := by kernel_rfl
  g3 := by kernel_rfl
  g4 := by kernel_rfl }
end Go.Proofs



namespace Go.Proofs.YticmebamclacaaaGreatDoor
open Go.RowKit Go.Shelf
set_option linter.unusedVariables false

theorem inS : (Tryz.prog.info? 9).map (fun i => (i.zero, i.size, i.bytes)) = some (some (.string ByteArray.empty), 1, 16) := by kernel_rfl
/-- The lines of a text. -/
def linesB (s : ByteArray) : List ByteArray := Lib.splitB ⟨#[10]⟩ 0 (Lib.countB s ⟨#[10]⟩) s
theorem linesB_len (s : ByteArray) : (linesB s).length = Lib.countB s ⟨#[10]⟩ + 1 := Lib.splitB_all ⟨#[10]⟩ (by decide) 0 _ s rfl

set_option maxHeartbeats 1000000 in
theorem lines_any (s : ByteArray) (w : World) (hs : s.size ≤ 16384) :
    Calls Tryz.prog 54 #[.string s, .string ⟨#[10]⟩] w fun e w' => e = .returned (.slice (some ⟨w.heap.size, 0, none⟩) (linesB s).length (linesB s).length) ∧ w' = w.alloc (.cells ((linesB s).map Value.string).toArray 9) := by
  have hlen := linesB_len s
  have hC : Calls Tryz.prog 102 #[.string s, .string ⟨#[10]⟩] w fun e w' => e = .returned (.int .i64 (Lib.countB s ⟨#[10]⟩)) ∧ w' = w := by
    refine (Tryz.strings_Count_one s 10 w).mono fun e w' ⟨he, hw⟩ => ⟨?_, hw⟩
    rw [he]
    show _ = Ending.returned (Value.int .i64 ((Lib.count s.data.toList [10] : Nat) : Int))
    rw [Lib.count_one]
    rfl
  have hI : ∀ (x : ByteArray) (c : Array Value), x.size ≤ s.size → Calls Tryz.prog 103 #[.string x, .string ⟨#[10]⟩] (w.alloc (.cells c 9)) fun e w' => e = .returned (.int .i64 (Lib.indexB x ⟨#[10]⟩)) ∧ w' = w.alloc (.cells c 9) := fun x c hx => by
    refine (Tryz.strings_Index_one x 10 _).mono fun e w' ⟨he, hw⟩ => ⟨?_, hw⟩
    rw [he]
    show _ = Ending.returned (Value.int .i64 (Lib.index x.data.toList [10]))
    rw [Lib.index_one]
  have hle := Lib.countB_le ⟨#[10]⟩ (by decide) s.size s (Nat.le_refl _)
  have c := Any.strings_genSplit_core Tryz.lays221 inS s ⟨#[10]⟩ 0 (-1) (Lib.countB s ⟨#[10]⟩ + 1) w (by omega) (by decide) (Nat.zero_le _) hI hC (by decide) (by decide) (by rw [if_pos (by decide)]; omega)
  rw [Nat.add_sub_cancel] at c
  have e2 : Lib.cellsOf (Lib.splitB ⟨#[10]⟩ 0 (Lib.countB s ⟨#[10]⟩) s) (Lib.countB s ⟨#[10]⟩ + 1) = ((linesB s).map Value.string).toArray := by rw [← hlen]; exact Lib.cellsOf_full _
  rw [e2] at c
  have c' : Hid (Calls Tryz.prog 75 #[.string s, .string ⟨#[10]⟩, .int .i64 0, .int .i64 (-1)] w fun e w' => e = .returned (.slice (some ⟨w.heap.size, 0, none⟩) (linesB s).length (linesB s).length) ∧ w' = w.alloc (.cells ((linesB s).map Value.string).toArray 9)) := by
    rw [hlen]
    have h := c
    rw [show (Lib.splitB ⟨#[10]⟩ 0 (Lib.countB s ⟨#[10]⟩) s).length = Lib.countB s ⟨#[10]⟩ + 1 from hlen] at h
    exact h
  clear c e2 hle hI hC hlen
  generalize (linesB s).length = n at c' ⊢
  generalize ((linesB s).map Value.string).toArray = cs at c' ⊢
  go_enter Tryz.func54, Tryz.ntmps54
  go_wp2_with fail
  refine c'.out.mono ?_
  rintro e w' ⟨rfl, rfl⟩
  clear c'
  go_wp2
  go_ret
  exact ⟨rfl, rfl⟩
end Go.Proofs.YticmebamclacaaaGreatDoor

namespace Go.Proofs.YticmebamclacaaaGreatDoor
open Go.RowKit Go.Shelf
set_option linter.unusedVariables false

/-- A text ahead of the first line. -/
def onto (x : List UInt8) : List (List UInt8) → List (List UInt8)
  | [] => [x]
  | y :: r => (x ++ y) :: r
/-- A text's lines: what stands ahead of each byte 10, and behind the last. -/
def fl : List UInt8 → List (List UInt8)
  | [] => [[]]
  | c :: t => if c = 10 then [] :: fl t else onto [c] (fl t)
theorem fl_ne (l : List UInt8) : fl l ≠ [] := by
  cases l with
  | nil => simp [fl]
  | cons c t =>
    unfold fl
    split
    · simp
    · cases fl t <;> simp [onto]
theorem onto_nil {m : List (List UInt8)} (h : m ≠ []) : onto [] m = m := by
  cases m with
  | nil => exact absurd rfl h
  | cons y r => simp [onto]
theorem onto_onto (x y : List UInt8) (m : List (List UInt8)) : onto x (onto y m) = onto (x ++ y) m := by
  cases m <;> simp [onto]
theorem fl_split : ∀ (s : List UInt8) (k : Nat), Lib.count s [10] = k → Lib.splitK [10] 0 k s = fl s
  | [], k, h => by
    have : Lib.count [] [10] = 0 := by rw [Lib.count_one]; rfl
    rw [this] at h
    subst h
    rfl
  | c :: t, k, h => by
    by_cases hc : c = 10
    · subst hc
      rw [Lib.count_cons_eq] at h
      obtain ⟨j, rfl⟩ : ∃ j, k = j + 1 := ⟨k - 1, by omega⟩
      have ih := fl_split t j (by omega)
      have hi : Lib.index (10 :: t) [10] = 0 := by rw [Lib.index_one]; unfold Lib.indexByte; simp
      unfold Lib.splitK
      rw [hi]
      unfold fl
      rw [if_pos rfl, ← ih]
      simp
    · rw [Lib.count_cons_ne _ _ _ hc] at h
      have hi : Lib.index (c :: t) [10] = if Lib.index t [10] = -1 then -1 else Lib.index t [10] + 1 := by
        rw [Lib.index_one, Lib.index_one]
        conv => lhs; unfold Lib.indexByte
        rw [if_neg (by simpa using hc)]
        by_cases h1 : Lib.indexByte t 10 = -1
        · rw [if_pos h1, if_pos (by simpa using h1)]
        · rw [if_neg h1, if_neg (by simpa using h1)]
      have ih := fl_split t k h
      have hf : fl (c :: t) = onto [c] (fl t) := by
        show (if c = 10 then _ else _) = _
        rw [if_neg hc]
      rw [hf, ← ih]
      cases k with
      | zero => rfl
      | succ j =>
        have hge := Lib.indexByte_ge t 10
        rw [← Lib.index_one] at hge
        have hm : ¬ Lib.index t [10] = -1 := fun e => by rw [Lib.count_miss e] at h; omega
        rw [if_neg hm] at hi
        unfold Lib.splitK
        rw [if_neg (by rw [hi]; simp; omega), if_neg (by simpa using hm), hi]
        obtain ⟨q, hq⟩ : ∃ q : Nat, Lib.index t [10] = q := ⟨(Lib.index t [10]).toNat, by omega⟩
        rw [hq, show ((q : Int) + 1).toNat = q + 1 by omega, show ((q : Int)).toNat = q by omega]
        simp [onto]
theorem linesB_fl (s : ByteArray) : (linesB s).map (·.data.toList) = fl s.data.toList := by
  unfold linesB
  rw [Lib.splitB_data]
  exact fl_split s.data.toList _ rfl
theorem linesB_eq (s : ByteArray) : linesB s = (fl s.data.toList).map fun l => ⟨l.toArray⟩ := by
  rw [← linesB_fl, List.map_map]
  conv => lhs; rw [← List.map_id (linesB s)]
  apply List.map_congr_left
  intro x _
  simp

end Go.Proofs.YticmebamclacaaaGreatDoor

namespace Go.Proofs.YticmebamclacaaaGreatDoor
namespace LX
def digN (n : Nat) : Bool := decide (48 ≤ n) && decide (n ≤ 57)
def lowN (n : Nat) : Bool := decide (97 ≤ n) && decide (n ≤ 122)
def inwN (n : Nat) : Bool := lowN n || digN n || n == 95
def hd : List UInt8 → Nat
  | [] => 0
  | c :: _ => c.toNat
def run (p : Nat → Bool) : List UInt8 → Nat
  | [] => 0
  | c :: t => if p c.toNat then run p t + 1 else 0
def numLen (l : List UInt8) : Nat :=
  if hd (l.drop (run digN l)) = 47 ∧ digN (hd (l.drop (run digN l + 1))) = true then run digN l + 1 + run digN (l.drop (run digN l + 1)) else run digN l
def brk : List UInt8 → Option Nat
  | [] => none
  | c :: t => if c.toNat = 93 then some 1 else (brk t).map (· + 1)
def qend : Bool → List UInt8 → Option Nat
  | _, [] => none
  | true, _ :: t => (qend false t).map (· + 1)
  | false, c :: t => if c.toNat = 34 then some 1 else (qend (c.toNat == 92) t).map (· + 1)
def beh : List UInt8 → Nat × Nat
  | [] => (0, 0)
  | c :: t =>
    if c.toNat = 40 then (1, 1) else if c.toNat = 41 then (2, 1) else if lowN c.toNat then (3, 1 + run inwN t)
    else if digN c.toNat || (c.toNat == 45 && digN (hd t)) then (6, 1 + numLen t)
    else if c.toNat = 60 ∧ hd t = 61 then (4, 2)
    else if c.toNat = 61 ∨ c.toNat = 43 ∨ c.toNat = 42 ∨ c.toNat = 60 ∨ c.toNat = 45 then (4, 1)
    else if c.toNat = 91 then ((brk t).elim (0, 0) fun k => (5, 1 + k))
    else if c.toNat = 34 then ((qend false t).elim (0, 0) fun k => (6, 1 + k))
    else if c.toNat = 64 then (7, 1 + run digN t)
    else (0, 0)

theorem beh_cons (c : UInt8) (t : List UInt8) : beh (c :: t) =
    if c.toNat = 40 then (1, 1) else if c.toNat = 41 then (2, 1) else if lowN c.toNat then (3, 1 + run inwN t)
    else if digN c.toNat || (c.toNat == 45 && digN (hd t)) then (6, 1 + numLen t)
    else if c.toNat = 60 ∧ hd t = 61 then (4, 2)
    else if c.toNat = 61 ∨ c.toNat = 43 ∨ c.toNat = 42 ∨ c.toNat = 60 ∨ c.toNat = 45 then (4, 1)
    else if c.toNat = 91 then ((brk t).elim (0, 0) fun k => (5, 1 + k))
    else if c.toNat = 34 then ((qend false t).elim (0, 0) fun k => (6, 1 + k))
    else if c.toNat = 64 then (7, 1 + run digN t)
    else (0, 0) := rfl

theorem run_le (p : Nat → Bool) (l : List UInt8) : run p l ≤ l.length := by
  induction l with
  | nil => simp [run]
  | cons c t ih => simp only [run]; split <;> simp; exact ih
theorem brk_le (l : List UInt8) (k : Nat) (h : brk l = some k) : 1 ≤ k ∧ k ≤ l.length := by
  induction l generalizing k with
  | nil => simp [brk] at h
  | cons c t ih =>
    simp only [brk] at h
    split at h
    · cases h; simp
    · cases hb : brk t with
      | none => simp [hb] at h
      | some j => simp [hb] at h; have := ih j hb; simp; omega
theorem qend_le (b : Bool) (l : List UInt8) (k : Nat) (h : qend b l = some k) : 1 ≤ k ∧ k ≤ l.length := by
  induction l generalizing k b with
  | nil => cases b <;> simp [qend] at h
  | cons c t ih =>
    cases b with
    | true =>
      simp only [qend] at h
      cases hb : qend false t with
      | none => simp [hb] at h
      | some j => simp [hb] at h; have := ih false j hb; simp; omega
    | false =>
      simp only [qend] at h
      split at h
      · cases h; simp
      · cases hb : qend (c.toNat == 92) t with
        | none => simp [hb] at h
        | some j => simp [hb] at h; have := ih _ j hb; simp; omega
theorem numLen_le (l : List UInt8) : numLen l ≤ l.length := by
  unfold numLen
  have h1 := run_le digN l
  split
  · rename_i h
    have h2 := run_le digN (l.drop (run digN l + 1))
    have h3 : run digN l + 1 < l.length := by
      apply Classical.byContradiction
      intro h3
      have : l.drop (run digN l + 1) = [] := List.drop_eq_nil_of_le (by omega)
      rw [this] at h
      simp [hd, digN] at h
    simp at h2
    omega
  · exact h1
theorem beh_le (l : List UInt8) (h : (beh l).1 ≠ 0) : 1 ≤ (beh l).2 ∧ (beh l).2 ≤ l.length := by
  cases l with
  | nil => simp [beh] at h
  | cons c t =>
    have h1 := run_le inwN t
    have h2 := run_le digN t
    have h3 := numLen_le t
    revert h
    rw [beh_cons]
    split
    · intro _; simp
    split
    · intro _; simp
    split
    · intro _; simp; omega
    split
    · intro _; simp; omega
    split
    · rename_i h5; intro _
      cases t with
      | nil => simp [hd] at h5
      | cons => simp
    split
    · intro _; simp
    split
    · cases hb : brk t with
      | none => simp
      | some k => intro _; have := brk_le t k hb; simp; omega
    split
    · cases hb : qend false t with
      | none => simp
      | some k => intro _; have := qend_le false t k hb; simp; omega
    split
    · intro _; simp; omega
    · simp

/-- A text that goes on as another does, up to n bytes, and then stops or has a byte that is a blank. -/
inductive Stops : List UInt8 → Prop
  | nil : Stops []
  | cons {c : UInt8} {t : List UInt8} (h : c.toNat = 32 ∨ c.toNat = 10) : Stops (c :: t)

theorem Stops.hd {r : List UInt8} (h : Stops r) : hd r = 0 ∨ hd r = 32 ∨ hd r = 10 := by
  cases h with
  | nil => simp [LX.hd]
  | cons h => simp [LX.hd]; omega
theorem run_take (p : Nat → Bool) (l : List UInt8) (m : Nat) (h : run p l ≤ m) : run p (l.take m) = run p l := by
  induction l generalizing m with
  | nil => simp [run]
  | cons c t ih =>
    cases m with
    | zero => simp only [run] at h ⊢; split <;> simp_all [run]
    | succ m =>
      simp only [run, List.take_succ_cons] at h ⊢
      split
      · rename_i hc; simp [hc] at h; rw [ih m h]
      · rfl
theorem brk_app (l r : List UInt8) (k : Nat) (h : brk l = some k) : brk (l.take k ++ r) = some k := by
  induction l generalizing k with
  | nil => simp [brk] at h
  | cons c t ih =>
    simp only [brk] at h
    split at h
    · rename_i hc; cases h; simp [brk, hc]
    · rename_i hc
      cases hb : brk t with
      | none => simp [hb] at h
      | some j => simp [hb] at h; subst h; simp [brk, hc, ih j hb]
theorem qend_app (b : Bool) (l r : List UInt8) (k : Nat) (h : qend b l = some k) : qend b (l.take k ++ r) = some k := by
  induction l generalizing k b with
  | nil => cases b <;> simp [qend] at h
  | cons c t ih =>
    cases b with
    | true =>
      simp only [qend] at h
      cases hb : qend false t with
      | none => simp [hb] at h
      | some j => simp [hb] at h; subst h; simp [qend, ih _ j hb]
    | false =>
      simp only [qend] at h
      split at h
      · rename_i hc; cases h; simp [qend, hc]
      · rename_i hc
        cases hb : qend (c.toNat == 92) t with
        | none => simp [hb] at h
        | some j => simp [hb] at h; subst h; simp only [List.take_succ_cons, List.cons_append, qend, if_neg hc, ih _ j hb]; rfl
theorem take_split (l : List UInt8) (k m : Nat) (h : k ≤ m) : l.take m = l.take k ++ (l.drop k).take (m - k) := by
  rw [← List.take_append_drop k (l.take m), List.take_take, List.drop_take, Nat.min_eq_left h]
theorem hd_take (l : List UInt8) (m : Nat) (h : 0 < m) : hd (l.take m) = hd l := by
  cases l <;> cases m <;> simp_all [hd]

theorem numLen_take (l : List UInt8) (m : Nat) (h : numLen l ≤ m) : numLen (l.take m) = numLen l := by
  have hr : run digN l ≤ m := by
    unfold numLen at h
    split at h <;> omega
  unfold numLen at h ⊢
  rw [run_take digN l m hr, List.drop_take, List.drop_take]
  split at h
  · rename_i hc
    have h1 : run digN l + 1 + 1 ≤ m := by
      have : run digN (l.drop (run digN l + 1)) ≠ 0 := by
        cases hl : l.drop (run digN l + 1) with
        | nil => rw [hl] at hc; simp [hd, digN] at hc
        | cons c t => rw [hl] at hc; simp [run]; exact hc.2
      omega
    rw [hd_take _ _ (by omega), hd_take _ _ (by omega), if_pos hc, if_pos hc, run_take]
    omega
  · rename_i hc
    rw [if_neg hc, if_neg]
    intro hx
    apply hc
    have h0 : 0 < m - run digN l := by
      apply Classical.byContradiction; intro h0
      have : m - run digN l = 0 := by omega
      rw [this] at hx; simp [hd] at hx
    have h1 : 0 < m - (run digN l + 1) := by
      apply Classical.byContradiction; intro h1
      have : m - (run digN l + 1) = 0 := by omega
      rw [this] at hx; simp [hd, digN] at hx
    rw [hd_take _ _ h0, hd_take _ _ h1] at hx
    exact hx
/-- The token at the beginning of a text is that of each piece of the text that holds it whole. -/
theorem beh_take (l : List UInt8) (m : Nat) (h : (beh l).1 ≠ 0) (hm : (beh l).2 ≤ m) : beh (l.take m) = beh l := by
  cases l with
  | nil => simp [beh] at h
  | cons c t =>
    have hpos := (beh_le (c :: t) h).1
    obtain ⟨j, rfl⟩ : ∃ j, m = j + 1 := ⟨m - 1, by omega⟩
    rw [List.take_succ_cons]
    by_cases h1 : c.toNat = 40
    · simp [beh, h1]
    by_cases h2 : c.toNat = 41
    · simp [beh, h2]
    by_cases h3 : lowN c.toNat = true
    · have e : beh (c :: t) = (3, 1 + run inwN t) := by simp [beh_cons, h1, h2, h3]
      rw [e] at hm ⊢
      dsimp only at hm
      simp [beh_cons, h1, h2, h3, run_take inwN t j (by omega)]
    by_cases h4 : digN c.toNat = true ∨ (c.toNat = 45 ∧ digN (hd t) = true)
    · have e : beh (c :: t) = (6, 1 + numLen t) := by simp [beh_cons, h1, h2, h3, h4]
      rw [e] at hm ⊢
      dsimp only at hm
      have h4' : digN c.toNat = true ∨ (c.toNat = 45 ∧ digN (hd (t.take j)) = true) := by
        rcases h4 with h4 | ⟨h4, h5⟩
        · exact .inl h4
        · refine .inr ⟨h4, ?_⟩
          have : numLen t ≠ 0 := by
            cases t with
            | nil => simp [hd, digN] at h5
            | cons a b =>
              have : run digN (a :: b) ≠ 0 := by simp [run]; simpa [hd] using h5
              unfold numLen; split <;> omega
          rw [hd_take _ _ (by omega)]
          exact h5
      simp [beh_cons, h1, h2, h3, h4', numLen_take t j (by omega)]
    by_cases h5 : c.toNat = 60 ∧ hd t = 61
    · have e : beh (c :: t) = (4, 2) := by rw [beh_cons]; simp_all
      rw [e] at hm ⊢
      dsimp only at hm
      have h5' : c.toNat = 60 ∧ hd (t.take j) = 61 := by rw [hd_take _ _ (by omega)]; exact h5
      rw [beh_cons]
      rw [if_neg h1, if_neg h2, if_neg h3, if_neg (by simp [h5.1]; decide), if_pos h5']
    by_cases h6 : c.toNat = 61 ∨ c.toNat = 43 ∨ c.toNat = 42 ∨ c.toNat = 60 ∨ c.toNat = 45
    · have e : beh (c :: t) = (4, 1) := by rw [beh_cons]; rw [if_neg h1, if_neg h2, if_neg h3, if_neg (by simpa using h4), if_neg h5, if_pos h6]
      rw [e]
      have hj : hd (t.take j) = 0 ∨ hd (t.take j) = hd t := by
        cases j with
        | zero => left; simp [hd]
        | succ j => right; exact hd_take _ _ (by omega)
      rw [beh_cons]
      rw [if_neg h1, if_neg h2, if_neg h3, if_neg, if_neg, if_pos h6]
      · rcases hj with hj | hj <;> rw [hj]
        · simp
        · exact h5
      · rcases hj with hj | hj <;> rw [hj]
        · simp at h4 ⊢; exact ⟨h4.1, fun _ => by decide⟩
        · simpa using h4
    by_cases h7 : c.toNat = 91
    · cases hb : brk t with
      | none => exfalso; apply h; rw [beh_cons]; rw [if_neg h1, if_neg h2, if_neg h3, if_neg (by simpa using h4), if_neg h5, if_neg h6, if_pos h7, hb]; rfl
      | some k =>
        have e : beh (c :: t) = (5, 1 + k) := by rw [beh_cons]; rw [if_neg h1, if_neg h2, if_neg h3, if_neg (by simpa using h4), if_neg h5, if_neg h6, if_pos h7, hb]; rfl
        rw [e] at hm ⊢
        dsimp only at hm
        have hb2 := brk_app t ((t.drop k).take (j - k)) k hb
        rw [← take_split t k j (by omega)] at hb2
        rw [beh_cons]
        rw [if_neg h1, if_neg h2, if_neg h3, if_neg (by simp [h7]; decide), if_neg (by omega), if_neg h6, if_pos h7, hb2]
        rfl
    by_cases h8 : c.toNat = 34
    · cases hb : qend false t with
      | none => exfalso; apply h; rw [beh_cons]; rw [if_neg h1, if_neg h2, if_neg h3, if_neg (by simpa using h4), if_neg h5, if_neg h6, if_neg h7, if_pos h8, hb]; rfl
      | some k =>
        have e : beh (c :: t) = (6, 1 + k) := by rw [beh_cons]; rw [if_neg h1, if_neg h2, if_neg h3, if_neg (by simpa using h4), if_neg h5, if_neg h6, if_neg h7, if_pos h8, hb]; rfl
        rw [e] at hm ⊢
        dsimp only at hm
        have hb2 := qend_app false t ((t.drop k).take (j - k)) k hb
        rw [← take_split t k j (by omega)] at hb2
        rw [beh_cons]
        rw [if_neg h1, if_neg h2, if_neg h3, if_neg (by simp [h8]; decide), if_neg (by omega), if_neg h6, if_neg h7, if_pos h8, hb2]
        rfl
    by_cases h9 : c.toNat = 64
    · have e : beh (c :: t) = (7, 1 + run digN t) := by rw [beh_cons]; rw [if_neg h1, if_neg h2, if_neg h3, if_neg (by simpa using h4), if_neg h5, if_neg h6, if_neg h7, if_neg h8, if_pos h9]
      rw [e] at hm ⊢
      dsimp only at hm
      rw [beh_cons]
      rw [if_neg h1, if_neg h2, if_neg h3, if_neg (by simp [h9]; decide), if_neg (by omega), if_neg h6, if_neg h7, if_neg h8, if_pos h9, run_take digN t j (by omega)]
    · exfalso; apply h; rw [beh_cons]; rw [if_neg h1, if_neg h2, if_neg h3, if_neg (by simpa using h4), if_neg h5, if_neg h6, if_neg h7, if_neg h8, if_neg h9]

def blk (c : UInt8) : Bool := c.toNat == 32 || c.toNat == 10
structure Tok (V : Type) where
  k : Nat
  at_ : Nat
  x : List UInt8
  v : V
section
variable {V : Type} (sd : Nat → List UInt8 → V × Bool)
def fine (l : List UInt8) : Prop := (beh l).1 ≠ 0 ∧ (sd (beh l).1 (l.take (beh l).2)).2 = true
instance (l : List UInt8) : Decidable (fine sd l) := inferInstanceAs (Decidable (_ ∧ _))
def tokAt (l : List UInt8) (p : Nat) : Tok V := ⟨(beh l).1, p, l.take (beh l).2, (sd (beh l).1 (l.take (beh l).2)).1⟩
def toks : Nat → List UInt8 → Nat → List (Tok V) × Option Nat
  | 0, _, _ => ([], none)
  | _ + 1, [], _ => ([], none)
  | f + 1, c :: t, p =>
    if blk c then toks f t (p + 1)
    else if fine sd (c :: t) then (tokAt sd (c :: t) p :: (toks f ((c :: t).drop (beh (c :: t)).2) (p + (beh (c :: t)).2)).1, (toks f ((c :: t).drop (beh (c :: t)).2) (p + (beh (c :: t)).2)).2)
    else ([], some p)
theorem toks_fuel (f g : Nat) (l : List UInt8) (p : Nat) (hf : l.length ≤ f) (hg : l.length ≤ g) : toks sd f l p = toks sd g l p := by
  induction f generalizing g l p with
  | zero =>
    have : l = [] := List.length_eq_zero_iff.mp (by omega)
    subst this
    cases g <;> simp [toks]
  | succ f ih =>
    cases l with
    | nil => cases g <;> simp [toks]
    | cons c t =>
      cases g with
      | zero => simp at hg
      | succ g =>
        simp at hf hg
        simp only [toks]
        rw [ih g t (p + 1) hf hg]
        split
        · rfl
        split
        · rename_i h
          have h1 := beh_le _ h.1
          have h2 : ((c :: t).drop (beh (c :: t)).2).length ≤ t.length := by simp; omega
          rw [ih g ((c :: t).drop (beh (c :: t)).2) (p + (beh (c :: t)).2) (by omega) (by omega)]
        · rfl
/-- The tokens of a text that begins at a place, and where the first is that is none. -/
def T (l : List UInt8) (p : Nat) : List (Tok V) × Option Nat := toks sd l.length l p
theorem T_nil (p : Nat) : T sd [] p = ([], none) := rfl
theorem T_blank {c : UInt8} (t : List UInt8) (p : Nat) (h : blk c = true) : T sd (c :: t) p = T sd t (p + 1) := by
  simp [T, toks, h]
theorem T_tok {c : UInt8} {t : List UInt8} (p : Nat) (h : blk c = false) (hf : fine sd (c :: t)) :
    T sd (c :: t) p = (tokAt sd (c :: t) p :: (T sd ((c :: t).drop (beh (c :: t)).2) (p + (beh (c :: t)).2)).1, (T sd ((c :: t).drop (beh (c :: t)).2) (p + (beh (c :: t)).2)).2) := by
  have h1 := beh_le _ hf.1
  have h2 : ((c :: t).drop (beh (c :: t)).2).length ≤ t.length := by simp; omega
  simp only [T]
  rw [show (c :: t).length = t.length + 1 from rfl]
  simp only [toks, h, if_pos hf]
  rw [toks_fuel sd t.length _ ((c :: t).drop (beh (c :: t)).2) _ h2 (Nat.le_refl _)]
  rfl
theorem T_none {c : UInt8} {t : List UInt8} (p : Nat) (h : blk c = false) (hf : ¬ fine sd (c :: t)) : T sd (c :: t) p = ([], some p) := by
  simp [T, toks, h, hf]

/-- A text is nothing but blanks, or blanks and a token with the rest behind it, or blanks and what is no token. -/
theorem T_cases (l : List UInt8) (p : Nat) :
    ((∀ c ∈ l, blk c = true) ∧ T sd l p = ([], none))
    ∨ (∃ b, b < l.length ∧ (∀ c ∈ l.take b, blk c = true) ∧ hd (l.drop b) ≠ 32 ∧ hd (l.drop b) ≠ 10 ∧ fine sd (l.drop b) ∧ T sd l p = (tokAt sd (l.drop b) (p + b) :: (T sd (l.drop (b + (beh (l.drop b)).2)) (p + b + (beh (l.drop b)).2)).1, (T sd (l.drop (b + (beh (l.drop b)).2)) (p + b + (beh (l.drop b)).2)).2))
    ∨ (∃ b, b < l.length ∧ (∀ c ∈ l.take b, blk c = true) ∧ hd (l.drop b) ≠ 32 ∧ hd (l.drop b) ≠ 10 ∧ ¬ fine sd (l.drop b) ∧ T sd l p = ([], some (p + b))) := by
  induction l generalizing p with
  | nil => left; exact ⟨by simp, rfl⟩
  | cons c t ih =>
    cases hb : blk c with
    | true =>
      rw [T_blank sd t p hb]
      rcases ih (p + 1) with ⟨h1, h2⟩ | ⟨b, h1, h2, h2a, h2b, h3, h4⟩ | ⟨b, h1, h2, h2a, h2b, h3, h4⟩
      · left; exact ⟨by intro x hx; cases hx with | head => exact hb | tail _ h => exact h1 x h, h2⟩
      · right; left
        refine ⟨b + 1, by simp; omega, ?_, h2a, h2b, h3, ?_⟩
        · intro x hx
          rw [List.take_succ_cons] at hx
          cases hx with | head => exact hb | tail _ h => exact h2 x h
        · rw [h4, show b + 1 + (beh ((c :: t).drop (b + 1))).2 = b + (beh (t.drop b)).2 + 1 by simp; omega]
          simp only [List.drop_succ_cons]
          rw [show p + 1 + b = p + (b + 1) by omega]
      · right; right
        refine ⟨b + 1, by simp; omega, ?_, h2a, h2b, h3, ?_⟩
        · intro x hx
          rw [List.take_succ_cons] at hx
          cases hx with | head => exact hb | tail _ h => exact h2 x h
        · rw [h4, show p + 1 + b = p + (b + 1) by omega]
    | false =>
      have hn : c.toNat ≠ 32 ∧ c.toNat ≠ 10 := by simpa [blk] using hb
      by_cases hf : fine sd (c :: t)
      · right; left
        refine ⟨0, by simp, by simp, hn.1, hn.2, hf, ?_⟩
        rw [T_tok sd p hb hf]; simp
      · right; right
        exact ⟨0, by simp, by simp, hn.1, hn.2, hf, T_none sd p hb hf⟩

/-- A token that may be, by itself. -/
structure Good (t : Tok V) : Prop where
  k : t.k ≠ 0
  b : beh t.x = (t.k, t.x.length)
  s : sd t.k t.x = (t.v, true)
theorem Good.pos {t : Tok V} (h : Good sd t) : 1 ≤ t.x.length := by
  have := beh_le t.x (by rw [h.b]; exact h.k)
  rw [h.b] at this; exact this.1
theorem good_at (l : List UInt8) (p : Nat) (h : fine sd l) : Good sd (tokAt sd l p) := by
  have hle := beh_le l h.1
  refine ⟨h.1, ?_, ?_⟩
  · show beh (l.take (beh l).2) = ((beh l).1, (l.take (beh l).2).length)
    rw [beh_take l _ h.1 (Nat.le_refl _), List.length_take, Nat.min_eq_left hle.2]
  · show sd (beh l).1 (l.take (beh l).2) = ((sd (beh l).1 (l.take (beh l).2)).1, true)
    rw [← h.2]
theorem T_good (n : Nat) (l : List UInt8) (hn : l.length ≤ n) (p : Nat) : ∀ t ∈ (T sd l p).1, Good sd t := by
  induction n generalizing l p with
  | zero =>
    have : l = [] := List.length_eq_zero_iff.mp (by omega)
    subst this
    simp [T, toks]
  | succ n ih =>
    rcases T_cases sd l p with ⟨h1, h2⟩ | ⟨b, h1, h2, h2a, h2b, h3, h4⟩ | ⟨b, h1, h2, h2a, h2b, h3, h4⟩
    · rw [h2]; simp
    · rw [h4]
      have hle := beh_le _ h3.1
      intro t ht
      cases ht with
      | head => exact good_at sd _ _ h3
      | tail _ ht => exact ih _ (by simp; omega) _ t ht
    · rw [h4]; simp
end
end LX
end Go.Proofs.YticmebamclacaaaGreatDoor

namespace Go.Proofs.YticmebamclacaaaGreatDoor
open Go.RowKit LX

/-- As Q; by a goto to a label: what J says of that label. -/
def Exit.jumps (J : Nat → Act → World → Prop) (Q : Exit → Act → World → Prop) : Exit → Act → World → Prop
  | .goto l, a, w => J l a w
  | e, a, w => Q e a w
section
variable {P : Program} {a : Act} {w : World} {Q : Exit → Act → World → Prop}
theorem wp_scope_labels {c : Code} (J : Nat → Act → World → Prop) (μ : Nat → Act → World → Nat)
    (first : c.wp P (Exit.jumps J Q) a w)
    (pass : ∀ l a w, J l a w → ∃ rest, findLabel c l = some rest ∧ rest.wp P (Exit.jumps (fun l' a' w' => J l' a' w' ∧ μ l' a' w' < μ l a w) Q) a w) : (Code.scope c).wp P Q a w := by
  intro b k cs
  have key : ∀ n l a w rest, findLabel c l = some rest → μ l a w = n → J l a w → ∃ e a' w', Q e a' w' ∧ Arrives P (lone (b.at a (.code rest :: .inScope c :: k)) cs w) b k cs e a' w' := by
    intro n
    induction n using Nat.strongRecOn with
    | _ n ih =>
      intro l a w rest hf hn hJ
      obtain ⟨rest', hf', hp⟩ := pass l a w hJ
      rw [hf] at hf'
      cases hf'
      obtain ⟨e, a₁, w₁, hq, harr⟩ := hp b (.inScope c :: k) cs
      cases e with
      | normal => exact ⟨.normal, a₁, w₁, hq, Steps.trans harr (.one step_inScope)⟩
      | exit id => exact ⟨.exit id, a₁, w₁, hq, fun k' hk => harr k' (by simp [exitTo, hk])⟩
      | goto l' =>
        obtain ⟨hJ', hlt⟩ := hq
        obtain ⟨rest2, hf2, -⟩ := pass l' a₁ w₁ hJ'
        have hg : gotoIn l' (.inScope c :: k) = some (.code rest2 :: .inScope c :: k) := by simp [gotoIn, hf2]
        obtain ⟨e₂, a₂, w₂, hq₂, harr₂⟩ := ih _ (by omega) l' a₁ w₁ rest2 hf2 rfl hJ'
        exact ⟨e₂, a₂, w₂, hq₂, .of_steps (harr _ hg) harr₂⟩
      | ret => exact ⟨_, a₁, w₁, hq, harr⟩
      | panic ch => exact ⟨_, a₁, w₁, hq, harr⟩
      | outgrown => exact ⟨_, a₁, w₁, hq, harr⟩
  obtain ⟨e, a₁, w₁, hq, harr⟩ := first b (.inScope c :: k) cs
  cases e with
  | normal => exact ⟨.normal, a₁, w₁, hq, .head step_scope (Steps.trans harr (.one step_inScope))⟩
  | exit id => exact ⟨.exit id, a₁, w₁, hq, fun k' hk => .head step_scope (harr k' (by simp [exitTo, hk]))⟩
  | goto l' =>
    obtain ⟨rest, hf, -⟩ := pass l' a₁ w₁ hq
    have hg : gotoIn l' (.inScope c :: k) = some (.code rest :: .inScope c :: k) := by simp [gotoIn, hf]
    obtain ⟨e₂, a₂, w₂, hq₂, harr₂⟩ := key _ l' a₁ w₁ rest hf rfl hq
    exact ⟨e₂, a₂, w₂, hq₂, .of_steps (.head step_scope (harr _ hg)) harr₂⟩
  | ret => exact ⟨_, a₁, w₁, hq, .of_steps (.one step_scope) harr⟩
  | panic ch => exact ⟨_, a₁, w₁, hq, .of_steps (.one step_scope) harr⟩
  | outgrown => exact ⟨_, a₁, w₁, hq, .of_steps (.one step_scope) harr⟩
theorem wp_scope_gotos {c : Code} (J : Nat → Act → World → Prop) (μ : Nat → Act → World → Nat)
    (pass : ∀ l a w, J l a w → ∃ y, findLabel c l = some (.seq .skip y) ∧ y.wp P (Exit.jumps (fun l' a' w' => J l' a' w' ∧ μ l' a' w' < μ l a w) Q) a w)
    (first : (∀ l a w y, J l a w → findLabel c l = some (.seq .skip y) → y.wp P (Exit.jumps J Q) a w) → c.wp P (Exit.jumps J Q) a w) : (Code.scope c).wp P Q a w := by
  refine wp_scope_labels J μ (first ?_) ?_
  · intro l a w y h hf
    obtain ⟨r, hr, hp⟩ := pass l a w h
    rw [hf] at hr
    cases hr
    refine wp_mono hp ?_
    intro e a w h
    cases e with
    | goto l => exact h.1
    | _ => exact h
  · intro l a w h
    obtain ⟨r, hr, hp⟩ := pass l a w h
    exact ⟨_, hr, wp_seq (wp_skip hp)⟩
theorem wp_scope_from {y0 : Code} (l0 : Nat) (J : Nat → Act → World → Prop) (μ : Nat → Act → World → Nat) (hf : findLabel (.seq (.label l0) y0) l0 = some (.seq .skip y0))
    (h0 : J l0 a w)
    (pass : ∀ l a w, J l a w → ∃ y, findLabel (.seq (.label l0) y0) l = some (.seq .skip y) ∧ y.wp P (Exit.jumps (fun l' a' w' => J l' a' w' ∧ μ l' a' w' < μ l a w) Q) a w) : (Code.scope (.seq (.label l0) y0)).wp P Q a w :=
  wp_scope_gotos J μ pass (fun h => wp_seq (wp_label (h l0 a w y0 h0 hf)))
end


theorem reti {k : IntKind} {a b : Int} (h : a = b) : Ending.returned (.int k a) = .returned (.int k b) := by rw [h]
theorem retb {a b : Bool} (h : a = b) : Ending.returned (.bool a) = .returned (.bool b) := by rw [h]
theorem hd_drop (s : ByteArray) (i : Nat) (h : i < s.size) : hd (s.data.toList.drop i) = s[i].toNat := by
  have h' : i < s.data.toList.length := by simpa using h
  rw [List.drop_eq_getElem_cons h']
  rfl
theorem hd_end (s : ByteArray) (i : Nat) (h : s.size ≤ i) : hd (s.data.toList.drop i) = 0 := by
  rw [List.drop_eq_nil_of_le (by simpa using h)]; rfl
theorem hd_lt (l : List UInt8) : hd l < 256 := by
  cases l with
  | nil => simp [hd]
  | cons c t => exact c.toNat_lt

theorem letter_any (c : Nat) (w : World) (hc : c < 256) :
    Calls Tryz.prog 141 #[.int .u8 c] w fun e w' => e = .returned (.bool (lowN c)) ∧ w' = w := by
  go_enter Tryz.func141, Tryz.ntmps141
  go_wp2
  all_goals go_ret
  all_goals refine ⟨retb ?_, rfl⟩
  all_goals unfold lowN
  all_goals rw [Bool.eq_iff_iff]
  all_goals simp
  all_goals omega
theorem digit_any (c : Nat) (w : World) (hc : c < 256) :
    Calls Tryz.prog 142 #[.int .u8 c] w fun e w' => e = .returned (.bool (digN c)) ∧ w' = w := by
  go_enter Tryz.func142, Tryz.ntmps142
  go_wp2
  all_goals go_ret
  all_goals refine ⟨retb ?_, rfl⟩
  all_goals unfold digN
  all_goals rw [Bool.eq_iff_iff]
  all_goals simp
  all_goals omega
set_option maxHeartbeats 1000000 in
theorem inword_any (c : Nat) (w : World) (hc : c < 256) :
    Calls Tryz.prog 146 #[.int .u8 c] w fun e w' => e = .returned (.bool (inwN c)) ∧ w' = w := by
  have A : Hid (∀ W : World, Calls Tryz.prog 141 #[.int .u8 c] W fun e w' => e = .returned (.bool (lowN c)) ∧ w' = W) := fun W => letter_any c W hc
  have D : Hid (∀ W : World, Calls Tryz.prog 142 #[.int .u8 c] W fun e w' => e = .returned (.bool (digN c)) ∧ w' = W) := fun W => digit_any c W hc
  unfold inwN
  generalize lowN c = a at A ⊢
  generalize digN c = b at D ⊢
  cases a
  · cases b
    · go_enter Tryz.func146, Tryz.ntmps146
      go_wp2_with fail
      refine (A.out _).mono ?_
      rintro e w1 ⟨rfl, rfl⟩
      go_wp2_with fail
      refine (D.out _).mono ?_
      rintro e w1 ⟨rfl, rfl⟩
      go_wp2
      all_goals go_ret
      all_goals refine ⟨retb ?_, rfl⟩
      all_goals rw [Bool.eq_iff_iff]
      all_goals simp
      all_goals omega
    · go_enter Tryz.func146, Tryz.ntmps146
      go_wp2_with fail
      refine (A.out _).mono ?_
      rintro e w1 ⟨rfl, rfl⟩
      go_wp2_with fail
      refine (D.out _).mono ?_
      rintro e w1 ⟨rfl, rfl⟩
      go_wp2
      go_ret
      exact ⟨rfl, rfl⟩
  · go_enter Tryz.func146, Tryz.ntmps146
    go_wp2_with fail
    refine (A.out _).mono ?_
    rintro e w1 ⟨rfl, rfl⟩
    go_wp2
    go_ret
    exact ⟨rfl, rfl⟩
theorem peek_any (s : ByteArray) (i : Nat) (w : World) :
    Calls Tryz.prog 143 #[.string s, .int .i64 i] w fun e w' => e = .returned (.int .u8 (hd (s.data.toList.drop i))) ∧ w' = w := by
  by_cases h : i < s.size
  · rw [hd_drop s i h]
    go_enter Tryz.func143, Tryz.ntmps143
    go_wp2
    go_ret
    exact ⟨rfl, rfl⟩
  · rw [hd_end s i (by omega)]
    go_enter Tryz.func143, Tryz.ntmps143
    go_wp2
    go_ret
    exact ⟨rfl, rfl⟩
end Go.Proofs.YticmebamclacaaaGreatDoor

namespace Go.Proofs.YticmebamclacaaaGreatDoor
open Go.RowKit LX

def intAt (a : Act) (i : Nat) : Int := match a.tmps.getD i undef with | .int _ q => q | _ => 0


theorem run_yes (p : Nat → Bool) (h0 : p 0 = false) {l : List UInt8} {e : Nat} (h : p (hd (l.drop e)) = true) : e < l.length ∧ run p (l.drop e) = run p (l.drop (e + 1)) + 1 := by
  by_cases he : e < l.length
  · refine ⟨he, ?_⟩
    rw [List.drop_eq_getElem_cons he] at h ⊢
    simp only [hd] at h
    simp [run, h]
  · rw [List.drop_eq_nil_of_le (by omega)] at h
    rw [hd, h0] at h
    cases h
theorem run_no (p : Nat → Bool) {l : List UInt8} (h : p (hd l) = false) : run p l = 0 := by
  cases l with
  | nil => rfl
  | cons c t => simp only [hd] at h; simp [run, h]
theorem num_yes {l : List UInt8} {e : Nat} (h : digN (hd (l.drop e)) = true) : e < l.length ∧ numLen (l.drop e) = numLen (l.drop (e + 1)) + 1 := by
  obtain ⟨h1, h2⟩ := run_yes digN rfl h
  refine ⟨h1, ?_⟩
  unfold numLen
  rw [h2]
  simp only [List.drop_drop]
  rw [show e + (run digN (l.drop (e + 1)) + 1) = e + 1 + run digN (l.drop (e + 1)) by omega, show e + (run digN (l.drop (e + 1)) + 1 + 1) = e + 1 + (run digN (l.drop (e + 1)) + 1) by omega]
  split <;> omega
theorem num_no {l : List UInt8} {e : Nat} (h : digN (hd (l.drop e)) = false) : numLen (l.drop e) = if hd (l.drop e) = 47 ∧ digN (hd (l.drop (e + 1))) = true then 1 + run digN (l.drop (e + 1)) else 0 := by
  unfold numLen
  rw [run_no digN h]
  simp only [List.drop_drop, Nat.add_zero, Nat.zero_add]

set_option maxRecDepth 100000 in
set_option maxHeartbeats 4000000 in
theorem numeral_any (s : ByteArray) (i : Nat) (w : World) (hs : s.size ≤ 16384) (hi : i ≤ s.size) :
    Calls Tryz.prog 144 #[.string s, .int .i64 i] w fun e w' => e = .returned (.int .i64 (i + numLen (s.data.toList.drop i) : Nat)) ∧ w' = w := by
  have hl : s.data.toList.length = s.size := by simp
  have PK : Hid (∀ (e : Nat) (W : World), Calls Tryz.prog 143 #[.string s, .int .i64 e] W fun x w' => x = .returned (.int .u8 (hd (s.data.toList.drop e))) ∧ w' = W) := fun e W => peek_any s e W
  have DG : Hid (∀ (e : Nat) (W : World), Calls Tryz.prog 142 #[.int .u8 (hd (s.data.toList.drop e))] W fun x w' => x = .returned (.bool (digN (hd (s.data.toList.drop e)))) ∧ w' = W) := fun e W => digit_any _ W (hd_lt _)
  obtain ⟨R, eR⟩ : ∃ R, Hid (i + numLen (s.data.toList.drop i) = R) := ⟨_, rfl⟩
  rw [eR.out]
  go_enter Tryz.func144, Tryz.ntmps144
  go_wp2
  refine wp_scope_from 0 (fun l a w' => w' = w ∧ ∃ (e : Nat) (u2 u3 u4 u5 u6 u7 u8 u9 u10 u11 u12 u13 u14 u15 u16 u17 u18 u19 u20 u21 u22 u23 u24 u25 u26 u27 u28 u29 u30 u31 : Value), a = { tmps := #[.string s, .int .i64 (e : Nat), u2, u3, u4, u5, u6, u7, u8, u9, u10, u11, u12, u13, u14, u15, u16, u17, u18, u19, u20, u21, u22, u23, u24, u25, u26, u27, u28, u29, u30, u31], defers := [] } ∧ e ≤ s.size ∧ ((l = 0 ∧ Hid (e + numLen (s.data.toList.drop e) = R)) ∨ (l = 1 ∧ Hid (e + run digN (s.data.toList.drop e) = R)))) (fun _ a _ => (s.size - intAt a 1).toNat) rfl ?_ ?_
  · exact ⟨rfl, i, _, _, _, _, _, _, _, _, _, _, _, _, _, _, _, _, _, _, _, _, _, _, _, _, _, _, _, _, _, _, rfl, hi, .inl ⟨rfl, eR⟩⟩
  · rintro l a w' ⟨rfl, e, u2, u3, u4, u5, u6, u7, u8, u9, u10, u11, u12, u13, u14, u15, u16, u17, u18, u19, u20, u21, u22, u23, u24, u25, u26, u27, u28, u29, u30, u31, rfl, he, ⟨rfl, hR⟩ | ⟨rfl, hR⟩⟩
    · refine ⟨_, rfl, ?_⟩
      go_wp2_with fail
      refine (PK.out e _).mono ?_
      rintro x w1 ⟨rfl, rfl⟩
      go_wp2_with fail
      refine (DG.out e _).mono ?_
      rintro x w1 ⟨rfl, rfl⟩
      cases hd0 : digN (hd (s.data.toList.drop e))
      · go_wp2_with fail
        refine (PK.out e _).mono ?_
        rintro x w1 ⟨rfl, rfl⟩
        by_cases h47 : hd (s.data.toList.drop e) = 47
        · have h47' : ((hd (s.data.toList.drop e) : Nat) : Int) = 47 := by omega
          have hlt : e < s.size := by
            apply Classical.byContradiction
            intro hn
            rw [hd_end s e (by omega)] at h47
            cases h47
          go_wp2_with fail
          refine (PK.out (e + 1) _).mono ?_
          rintro x w1 ⟨rfl, rfl⟩
          go_wp2_with fail
          refine (DG.out (e + 1) _).mono ?_
          rintro x w1 ⟨rfl, rfl⟩
          cases hd1 : digN (hd (s.data.toList.drop (e + 1)))
          · go_wp2
            have hr := num_no hd0
            rw [if_neg (by rw [hd1]; simp)] at hr
            have hR' := hR.out
            simp only [Exit.jumps]
            go_ret
            exact ⟨reti (by omega), rfl⟩
          · go_wp2
            go_step3
            have hr := num_no hd0
            rw [if_pos ⟨h47, hd1⟩] at hr
            have hR' := hR.out
            refine ⟨⟨rfl, e + 1, _, _, _, _, _, _, _, _, _, _, _, _, _, _, _, _, _, _, _, _, _, _, _, _, _, _, _, _, _, _, rfl, by omega, .inr ⟨rfl, (show _ = _ by omega)⟩⟩, ?_⟩
            simp [intAt]
            omega
        · have h47' : ¬ ((hd (s.data.toList.drop e) : Nat) : Int) = 47 := by omega
          go_wp2
          have hr := num_no hd0
          rw [if_neg (by intro hx; exact h47 hx.1)] at hr
          have hR' := hR.out
          simp only [Exit.jumps]
          go_ret
          exact ⟨reti (by omega), rfl⟩
      · obtain ⟨g1, g2⟩ := num_yes hd0
        rw [hl] at g1
        go_wp2
        go_step3
        have hR' := hR.out
        refine ⟨⟨rfl, e + 1, _, _, _, _, _, _, _, _, _, _, _, _, _, _, _, _, _, _, _, _, _, _, _, _, _, _, _, _, _, _, rfl, by omega, .inl ⟨rfl, (show _ = _ by omega)⟩⟩, ?_⟩
        simp [intAt]
        omega
    · refine ⟨_, rfl, ?_⟩
      go_wp2_with fail
      refine (PK.out e _).mono ?_
      rintro x w1 ⟨rfl, rfl⟩
      go_wp2_with fail
      refine (DG.out e _).mono ?_
      rintro x w1 ⟨rfl, rfl⟩
      cases hd0 : digN (hd (s.data.toList.drop e))
      · go_wp2
        have hr := run_no digN hd0
        have hR' := hR.out
        simp only [Exit.jumps]
        go_ret
        exact ⟨reti (by omega), rfl⟩
      · obtain ⟨g1, g2⟩ := run_yes digN rfl hd0
        rw [hl] at g1
        go_wp2
        go_step3
        have hR' := hR.out
        refine ⟨⟨rfl, e + 1, _, _, _, _, _, _, _, _, _, _, _, _, _, _, _, _, _, _, _, _, _, _, _, _, _, _, _, _, _, _, rfl, by omega, .inr ⟨rfl, (show _ = _ by omega)⟩⟩, ?_⟩
        simp [intAt]
        omega
end Go.Proofs.YticmebamclacaaaGreatDoor

namespace Go.Proofs.YticmebamclacaaaGreatDoor
open Go.RowKit Go.Shelf
set_option linter.unusedVariables false

/-- Texts of the call's own. -/
def OwnLn (B : Nat) (v : Value) (L : List ByteArray) (w : World) : Prop := w.ownsRow B 9 1 v L.length (L.map Value.string)
theorem OwnLn.form {B : Nat} {v : Value} {L : List ByteArray} {w : World} (h : OwnLn B v L w) : ∃ p c, v = .slice p L.length c ∧ ∀ i (hi : i < L.length), ∃ b, p = some ⟨b, 0, none⟩ ∧ b < w.heap.size ∧ w.cell? ⟨b, i, none⟩ = some (.string L[i]) := by
  have h' : w.ownsRow B 9 1 v L.length (L.map Value.string) := h
  obtain ⟨hl, ⟨e, hn⟩ | ⟨g, cap, cur, rfl, hg1, hg2, -⟩⟩ := h
  · exact ⟨none, 0, by rw [e, hn], fun i hi => by omega⟩
  · refine ⟨_, _, rfl, fun i hi => ⟨g, rfl, (Array.getElem?_eq_some_iff.1 hg2).1, ?_⟩⟩
    rw [h'.cellAt _ (by omega)]
    simp [hi]
theorem lines_in {s : ByteArray} {i : Nat} (h : i < s.size) : s.data.toList.drop i = s[i] :: s.data.toList.drop (i + 1) := by
  rw [List.drop_eq_getElem_cons (by simpa using h)]
  rfl
theorem ext_snoc {s : ByteArray} {f i : Nat} (hf : f ≤ i) (h : i < s.size) : (s.extract f (i + 1)).data.toList = (s.extract f i).data.toList ++ [s[i]] := by
  rw [Lib.extract_data, Lib.extract_data, show i + 1 - f = (i - f) + 1 by omega]
  have hs : s.data.toList.length = s.size := by simp
  have hl : i - f < (s.data.toList.drop f).length := by rw [List.length_drop]; omega
  rw [List.take_succ_eq_append_getElem hl]
  congr 1
  rw [List.getElem_drop]
  congr 1
  show s.data.toList[f + (i - f)] = s[i]
  simp only [show f + (i - f) = i by omega]
  rfl
theorem ext_nil (s : ByteArray) (f : Nat) : (s.extract f f).data.toList = [] := by
  rw [Lib.extract_data]
  simp

/-- What Lines answers. -/
def LnOut (N : Nat) (w : World) (s : ByteArray) (r : Ending) (w' : World) : Prop := Below N w w' ∧ ∃ v L, r = .returned v ∧ OwnLn N v L w' ∧ (linesB s = L ∨ linesB s = L ++ [⟨#[]⟩]) ∧ L.length ≤ 16384
set_option maxRecDepth 100000 in
set_option maxHeartbeats 8000000 in
theorem rlines_any (s : ByteArray) (w : World) (hs : s.size ≤ 16384) :
    Calls Tryz.prog 36 #[.string s] w fun r w' => LnOut w.heap.size w s r w' := by
  obtain ⟨i0, hi, hz0, hz1, hz2⟩ := info_parts inS
  have hl : s.data.toList.length = s.size := by simp
  have hE : Hid (∀ M : List ByteArray, fl s.data.toList = M.map (·.data.toList) → linesB s = M) := fun M h => by
    rw [linesB_eq, h, List.map_map]
    conv => rhs; rw [← List.map_id M]
    apply List.map_congr_left
    intro x _
    simp
  go_enter Tryz.func36, Tryz.ntmps36
  go_wp2
  go_loopw [3, 4, 5] (fun v3 v4 v5 wr => ∃ (f i : Nat) (L : List ByteArray), v4 = .int .i64 f ∧ v5 = .int .i64 i ∧ f ≤ i ∧ i ≤ s.size ∧ L.length ≤ f ∧ Below w.heap.size w wr ∧ Hid (OwnLn w.heap.size v3 L wr) ∧ Hid (fl s.data.toList = L.map (·.data.toList) ++ onto (s.extract f i).data.toList (fl (s.data.toList.drop i)))) (fun _ _ v5 _ => s.size - (intOf v5).toNat)
  case atStart => exact ⟨0, 0, [], rfl, rfl, Nat.le_refl _, Nat.zero_le _, Nat.le_refl _, Below.refl _ _, (⟨rfl, .inl ⟨rfl, rfl⟩⟩ : OwnLn _ _ _ _), (show _ = _ by rw [ext_nil, List.drop_zero, onto_nil (fl_ne _)]; rfl)⟩
  case round =>
    obtain ⟨f, i, L, rfl, rfl, hfi, his, hLf, hB, hO, hF⟩ := hrel
    have hsz := hB.size
    have HK : Hid (∀ q, u3.ownBlock = some q → w.heap.size ≤ q) := fun q hq => (World.ownsRow.lt hO.out q hq).1
    by_cases hlt : i < s.size
    · have hlt' : (i : Int) < s.size := by omega
      by_cases h10 : s[i].toNat = 10
      · have h10' : ((s[i].toNat : Nat) : Int) = 10 := by omega
        have hc : s[i] = 10 := UInt8.toNat_inj.1 h10
        have hF2 : Hid (fl s.data.toList = (L ++ [s.extract f i]).map (·.data.toList) ++ onto (s.extract (i + 1) (i + 1)).data.toList (fl (s.data.toList.drop (i + 1)))) := by
          have h := hF.out
          rw [lines_in hlt] at h
          unfold fl at h
          rw [if_pos hc] at h
          show _ = _
          rw [ext_nil, onto_nil (fl_ne _), List.map_append]
          conv => lhs; unfold fl
          rw [h]
          simp [onto]
        have hfi' : (f : Int) ≤ i := by omega
        have his' : (i : Int) ≤ s.size := by omega
        clear hF
        go_wp2_with (at_builtin; refine wpList_append_own _ rfl _ _ 68 rfl w.heap.size 9 i0 (.string ByteArray.empty) 1 16 Tryz.underlying68 hi hz0 hz1 hz2 rfl (by decide) _ _ _ rfl (World.ownsRow.alloc hO.out _) ⟨wr.heap.size, 0, none⟩ 1 1 [.string (s.extract f i)] rfl rfl ?cc1 ?cc2 ?cc3 ?cc4 ?cc5 ?_)
        case cc1 => (intro j u hj; rw [Addr.add_lit]; (rcases j with _ | j) <;> simp at hj <;> subst hj <;> simp (maxDischargeDepth := 12) [go_sem])
        case cc2 => (intro u hu; simp at hu; subst hu; rfl)
        case cc3 => unfold maxLen; omega
        case cc4 => omega
        case cc5 => first | omega | (simp; omega)
        intro v' w3 h2 h3 _
        have O3 : Hid (OwnLn w.heap.size v' (L ++ [s.extract f i]) w3) := by
          show w3.ownsRow _ _ _ _ _ _
          rw [List.length_append, List.map_append]
          exact h2
        have B3 : Below w.heap.size w w3 := Below.grown (hB.alloc hsz _) h3 (by simp; omega) HK.out
        clear h2 h3 HK hO
        go_wp2
        exact ⟨⟨i + 1, i + 1, L ++ [s.extract f i], by go_num, by go_num, Nat.le_refl _, by omega, by simp; omega, B3, O3, hF2⟩, by simp [intOf]; omega⟩
      · have h10' : ¬ ((s[i].toNat : Nat) : Int) = 10 := by omega
        have hc : ¬ s[i] = 10 := fun e => h10 (by rw [e]; rfl)
        have hF2 : Hid (fl s.data.toList = L.map (·.data.toList) ++ onto (s.extract f (i + 1)).data.toList (fl (s.data.toList.drop (i + 1)))) := by
          have h := hF.out
          have e : fl (s.data.toList.drop i) = onto [s[i]] (fl (s.data.toList.drop (i + 1))) := by
            rw [lines_in hlt]
            show (if s[i] = 10 then _ else _) = _
            rw [if_neg hc]
          rw [e, onto_onto, ← ext_snoc hfi hlt] at h
          exact h
        clear hF
        go_wp2
        exact ⟨⟨f, i + 1, L, rfl, by go_num, by omega, by omega, hLf, hB, hO, hF2⟩, by simp [intOf]; omega⟩
    · have c2 : ¬ (i : Int) < s.size := by omega
      obtain rfl : i = s.size := by omega
      have hF3 : Hid (fl s.data.toList = L.map (·.data.toList) ++ [(s.extract f s.size).data.toList]) := by
        have h := hF.out
        rw [List.drop_eq_nil_of_le (by omega)] at h
        unfold Hid
        simpa [fl, onto] using h
      clear hF
      by_cases hf : f < s.size
      · have hf' : (f : Int) < s.size := by omega
        have hf2 : (f : Int) ≤ s.size := by omega
        go_wp2_with (at_builtin; refine wpList_append_own _ rfl _ _ 68 rfl w.heap.size 9 i0 (.string ByteArray.empty) 1 16 Tryz.underlying68 hi hz0 hz1 hz2 rfl (by decide) _ _ _ rfl (World.ownsRow.alloc hO.out _) ⟨wr.heap.size, 0, none⟩ 1 1 [.string (s.extract f s.size)] rfl rfl ?ee1 ?ee2 ?ee3 ?ee4 ?ee5 ?_)
        case ee2 => first | rfl | (intro u hu; simp at hu; subst hu; rfl)
        case ee3 => unfold maxLen; omega
        case ee4 => omega
        case ee5 => first | omega | (simp; omega)
        intro v' w3 h2 h3 _
        have O3 : Hid (OwnLn w.heap.size v' (L ++ [s.extract f s.size]) w3) := by
          show w3.ownsRow _ _ _ _ _ _
          rw [List.length_append, List.map_append]
          exact h2
        have B3 : Below w.heap.size w w3 := Below.grown (hB.alloc hsz _) h3 (by simp; omega) HK.out
        clear h2 h3 HK hO
        go_wp2
        go_ret
        exact ⟨B3, v', L ++ [s.extract f s.size], rfl, O3.out, Or.inl (hE.out _ (by rw [hF3.out, List.map_append]; rfl)), by simp; omega⟩
      · have hf' : ¬ (f : Int) < s.size := by omega
        obtain rfl : f = s.size := by omega
        go_wp2
        go_ret
        refine ⟨hB, u3, L, rfl, hO.out, Or.inr (hE.out _ ?_), by omega⟩
        rw [hF3.out, List.map_append, ext_nil]
        rfl

end Go.Proofs.YticmebamclacaaaGreatDoor

namespace Go.Proofs.YticmebamclacaaaGreatDoor
open LX
set_option linter.unusedVariables false

/-- The words that are no names. -/
def resv : List (List UInt8) := [[116, 114, 117, 101], [102, 97, 108, 115, 101], [110, 111, 116], [97, 110, 100], [111, 114], [101, 120, 105, 115, 116, 115], [112, 114, 101, 118], [110, 101, 120, 116], [111, 110, 99, 101], [115, 111, 111, 110], [115, 105, 110, 99, 101], [117, 110, 116, 105, 108], [98, 101, 102, 111, 114, 101], [97, 102, 116, 101, 114], [97, 103, 103], [108, 101, 116], [108, 101, 116, 112, 97, 115, 116], [106, 111, 105, 110], [97, 110, 121], [116, 101, 115, 116], [97, 108, 116], [115, 101, 113], [115, 116, 97, 114]]
/-- Are all letters, digits or low lines? -/
def inAll : List UInt8 → Bool
  | [] => true
  | c :: l => inwN c.toNat && inAll l
/-- Is a text a name? -/
def nameL (l : List UInt8) : Bool := decide (1 ≤ l.length) && decide (l.length ≤ 16) && lowN (hd l) && !resv.contains l && inAll l
def nameB (s : ByteArray) : Bool := nameL s.data.toList

/-- A declaration. -/
structure Dec where
  name : ByteArray
  kinds : List Int

/-- The place of a declaration of a name, from a place on. -/
def findI (x : ByteArray) : List Dec → Nat → Int
  | [], _ => -1
  | d :: l, k => if d.name = x then (k : Int) else findI x l (k + 1)
/-- Why kinds may not be a declaration's. -/
def kindsE : List Int → Int
  | [] => 0
  | k :: l => if 1 ≤ k ∧ k ≤ 3 then kindsE l else 20
def declE (L : List Dec) (d : Dec) : Int := if nameB d.name = false ∨ 0 ≤ findI d.name L 0 then 1 else if 6 < d.kinds.length then 3 else kindsE d.kinds
def sigO (A : List Dec) : List Dec → Int
  | [] => 0
  | d :: l => if declE A d = 0 then sigO (A ++ [d]) l else declE A d
def sigE (L : List Dec) : Int := if 32 < L.length then 3 else sigO [] L
end Go.Proofs.YticmebamclacaaaGreatDoor

namespace Go.Proofs.YticmebamclacaaaGreatDoor
open Go.RowKit LX
set_option linter.unusedVariables false

theorem aletter_any (c : Nat) (w : World) (hc : c < 256) :
    Calls Tryz.prog 99 #[.int .u8 c] w fun e w' => e = .returned (.bool (lowN c)) ∧ w' = w := by
  go_enter Tryz.func99, Tryz.ntmps99
  go_wp2
  all_goals go_ret
  all_goals refine ⟨retb ?_, rfl⟩
  all_goals unfold lowN
  all_goals rw [Bool.eq_iff_iff]
  all_goals simp
  all_goals omega

theorem ne_list {s : ByteArray} {l : List UInt8} (h : ¬ s.data.toList = l) : (s.toList == l) = false := by rw [ByteArray.toList_eq]; simpa using h
theorem of_list {s : ByteArray} {l : List UInt8} (h : s.data.toList = l) : s = ⟨l.toArray⟩ := by
  cases s
  subst h
  simp

set_option maxHeartbeats 4000000 in
set_option maxRecDepth 100000 in
theorem reserved_any (s : ByteArray) (w : World) :
    Calls Tryz.prog 100 #[.string s] w fun e w' => e = .returned (.bool (resv.contains s.data.toList)) ∧ w' = w := by
  by_cases h0 : s.data.toList = [116, 114, 117, 101]
  · have hs := of_list h0
    subst hs
    go_enter Tryz.func100, Tryz.ntmps100
    go_wp2
    go_ret
    exact ⟨rfl, rfl⟩
  by_cases h1 : s.data.toList = [102, 97, 108, 115, 101]
  · have hs := of_list h1
    subst hs
    go_enter Tryz.func100, Tryz.ntmps100
    go_wp2
    go_ret
    exact ⟨rfl, rfl⟩
  by_cases h2 : s.data.toList = [110, 111, 116]
  · have hs := of_list h2
    subst hs
    go_enter Tryz.func100, Tryz.ntmps100
    go_wp2
    go_ret
    exact ⟨rfl, rfl⟩
  by_cases h3 : s.data.toList = [97, 110, 100]
  · have hs := of_list h3
    subst hs
    go_enter Tryz.func100, Tryz.ntmps100
    go_wp2
    go_ret
    exact ⟨rfl, rfl⟩
  by_cases h4 : s.data.toList = [111, 114]
  · have hs := of_list h4
    subst hs
    go_enter Tryz.func100, Tryz.ntmps100
    go_wp2
    go_ret
    exact ⟨rfl, rfl⟩
  by_cases h5 : s.data.toList = [101, 120, 105, 115, 116, 115]
  · have hs := of_list h5
    subst hs
    go_enter Tryz.func100, Tryz.ntmps100
    go_wp2
    go_ret
    exact ⟨rfl, rfl⟩
  by_cases h6 : s.data.toList = [112, 114, 101, 118]
  · have hs := of_list h6
    subst hs
    go_enter Tryz.func100, Tryz.ntmps100
    go_wp2
    go_ret
    exact ⟨rfl, rfl⟩
  by_cases h7 : s.data.toList = [110, 101, 120, 116]
  · have hs := of_list h7
    subst hs
    go_enter Tryz.func100, Tryz.ntmps100
    go_wp2
    go_ret
    exact ⟨rfl, rfl⟩
  by_cases h8 : s.data.toList = [111, 110, 99, 101]
  · have hs := of_list h8
    subst hs
    go_enter Tryz.func100, Tryz.ntmps100
    go_wp2
    go_ret
    exact ⟨rfl, rfl⟩
  by_cases h9 : s.data.toList = [115, 111, 111, 110]
  · have hs := of_list h9
    subst hs
    go_enter Tryz.func100, Tryz.ntmps100
    go_wp2
    go_ret
    exact ⟨rfl, rfl⟩
  by_cases h10 : s.data.toList = [115, 105, 110, 99, 101]
  · have hs := of_list h10
    subst hs
    go_enter Tryz.func100, Tryz.ntmps100
    go_wp2
    go_ret
    exact ⟨rfl, rfl⟩
  by_cases h11 : s.data.toList = [117, 110, 116, 105, 108]
  · have hs := of_list h11
    subst hs
    go_enter Tryz.func100, Tryz.ntmps100
    go_wp2
    go_ret
    exact ⟨rfl, rfl⟩
  by_cases h12 : s.data.toList = [98, 101, 102, 111, 114, 101]
  · have hs := of_list h12
    subst hs
    go_enter Tryz.func100, Tryz.ntmps100
    go_wp2
    go_ret
    exact ⟨rfl, rfl⟩
  by_cases h13 : s.data.toList = [97, 102, 116, 101, 114]
  · have hs := of_list h13
    subst hs
    go_enter Tryz.func100, Tryz.ntmps100
    go_wp2
    go_ret
    exact ⟨rfl, rfl⟩
  by_cases h14 : s.data.toList = [97, 103, 103]
  · have hs := of_list h14
    subst hs
    go_enter Tryz.func100, Tryz.ntmps100
    go_wp2
    go_ret
    exact ⟨rfl, rfl⟩
  by_cases h15 : s.data.toList = [108, 101, 116]
  · have hs := of_list h15
    subst hs
    go_enter Tryz.func100, Tryz.ntmps100
    go_wp2
    go_ret
    exact ⟨rfl, rfl⟩
  by_cases h16 : s.data.toList = [108, 101, 116, 112, 97, 115, 116]
  · have hs := of_list h16
    subst hs
    go_enter Tryz.func100, Tryz.ntmps100
    go_wp2
    go_ret
    exact ⟨rfl, rfl⟩
  by_cases h17 : s.data.toList = [106, 111, 105, 110]
  · have hs := of_list h17
    subst hs
    go_enter Tryz.func100, Tryz.ntmps100
    go_wp2
    go_ret
    exact ⟨rfl, rfl⟩
  by_cases h18 : s.data.toList = [97, 110, 121]
  · have hs := of_list h18
    subst hs
    go_enter Tryz.func100, Tryz.ntmps100
    go_wp2
    go_ret
    exact ⟨rfl, rfl⟩
  by_cases h19 : s.data.toList = [116, 101, 115, 116]
  · have hs := of_list h19
    subst hs
    go_enter Tryz.func100, Tryz.ntmps100
    go_wp2
    go_ret
    exact ⟨rfl, rfl⟩
  by_cases h20 : s.data.toList = [97, 108, 116]
  · have hs := of_list h20
    subst hs
    go_enter Tryz.func100, Tryz.ntmps100
    go_wp2
    go_ret
    exact ⟨rfl, rfl⟩
  by_cases h21 : s.data.toList = [115, 101, 113]
  · have hs := of_list h21
    subst hs
    go_enter Tryz.func100, Tryz.ntmps100
    go_wp2
    go_ret
    exact ⟨rfl, rfl⟩
  by_cases h22 : s.data.toList = [115, 116, 97, 114]
  · have hs := of_list h22
    subst hs
    go_enter Tryz.func100, Tryz.ntmps100
    go_wp2
    go_ret
    exact ⟨rfl, rfl⟩
  have g0 := ne_list h0
  have g1 := ne_list h1
  have g2 := ne_list h2
  have g3 := ne_list h3
  have g4 := ne_list h4
  have g5 := ne_list h5
  have g6 := ne_list h6
  have g7 := ne_list h7
  have g8 := ne_list h8
  have g9 := ne_list h9
  have g10 := ne_list h10
  have g11 := ne_list h11
  have g12 := ne_list h12
  have g13 := ne_list h13
  have g14 := ne_list h14
  have g15 := ne_list h15
  have g16 := ne_list h16
  have g17 := ne_list h17
  have g18 := ne_list h18
  have g19 := ne_list h19
  have g20 := ne_list h20
  have g21 := ne_list h21
  have g22 := ne_list h22
  have hn : Hid (resv.contains s.data.toList = false) := by
    unfold Hid resv
    simp [h0, h1, h2, h3, h4, h5, h6, h7, h8, h9, h10, h11, h12, h13, h14, h15, h16, h17, h18, h19, h20, h21, h22]
  rw [hn.out]
  clear h0 h1 h2 h3 h4 h5 h6 h7 h8 h9 h10 h11 h12 h13 h14 h15 h16 h17 h18 h19 h20 h21 h22
  go_enter Tryz.func100, Tryz.ntmps100
  go_wp2
  go_ret
  exact ⟨rfl, rfl⟩

theorem nameL_len {l : List UInt8} (h : nameL l = true) : l.length ≤ 16 := by
  unfold nameL at h
  simp at h
  exact h.1.1.1.2
theorem nameL_all {l : List UInt8} (h1 : 1 ≤ l.length) (h2 : l.length ≤ 16) (h3 : lowN (hd l) = true) (h4 : resv.contains l = false) : nameL l = inAll l := by
  unfold nameL
  rw [h3, h4, decide_eq_true h1, decide_eq_true h2]
  rfl

set_option maxHeartbeats 4000000 in
set_option maxRecDepth 100000 in
theorem name_any (s : ByteArray) (w : World) :
    Calls Tryz.prog 73 #[.string s] w fun e w' => e = .returned (.bool (nameB s)) ∧ w' = w := by
  have hl : s.data.toList.length = s.size := by simp
  by_cases h0 : s.size = 0
  · have hs : s = ⟨#[]⟩ := of_list (l := []) (List.eq_nil_of_length_eq_zero (by omega))
    subst hs
    go_enter Tryz.func73, Tryz.ntmps73
    go_wp2
    go_ret
    exact ⟨rfl, rfl⟩
  · have e0 : (s.toList == []) = false := by
      rw [ByteArray.toList_eq]
      simp
      intro h
      apply h0
      rw [← hl, h]
      rfl
    by_cases h1 : 16 < s.size
    · have hn : Hid (nameB s = false) := by
        unfold Hid nameB
        cases h : nameL s.data.toList with
        | false => rfl
        | true => exact absurd (nameL_len h) (by omega)
      have h1' : (16 : Int) < s.size := by omega
      rw [hn.out]
      go_enter Tryz.func73, Tryz.ntmps73
      go_wp2
      go_ret
      exact ⟨rfl, rfl⟩
    · have h1' : ¬ (16 : Int) < s.size := by omega
      have hp : 0 < s.size := by omega
      have hh : hd s.data.toList = s[0].toNat := by simpa using hd_drop s 0 hp
      have A : Hid (∀ W : World, Calls Tryz.prog 99 #[.int .u8 s[0].toNat] W fun e w' => e = .returned (.bool (lowN (hd s.data.toList))) ∧ w' = W) := fun W => by
        rw [hh]
        exact aletter_any _ W s[0].toNat_lt
      have R : Hid (∀ W : World, Calls Tryz.prog 100 #[.string s] W fun e w' => e = .returned (.bool (resv.contains s.data.toList)) ∧ w' = W) := fun W => reserved_any s W
      by_cases hb : lowN (hd s.data.toList) = true
      · by_cases hr : resv.contains s.data.toList = true
        · have hn : Hid (nameB s = false) := by unfold Hid nameB nameL; rw [hr]; simp
          rw [hn.out]
          rw [hb] at A
          rw [hr] at R
          clear hh hb hr
          go_enter Tryz.func73, Tryz.ntmps73
          go_wp2_with fail
          refine (A.out _).mono ?_
          rintro e w1 ⟨rfl, rfl⟩
          go_wp2_with fail
          refine (R.out _).mono ?_
          rintro e w1 ⟨rfl, rfl⟩
          go_wp2
          go_ret
          exact ⟨rfl, rfl⟩
        · have hr' : resv.contains s.data.toList = false := by simpa using hr
          have hn : Hid (nameB s = inAll s.data.toList) := nameL_all (by omega) (by omega) hb hr'
          rw [hn.out]
          rw [hb] at A
          rw [hr'] at R
          clear hh hb hr hr' hn
          obtain ⟨n, en⟩ : ∃ n : Nat, Hid (s.size = n) := ⟨_, rfl⟩
          go_enter Tryz.func73, Tryz.ntmps73
          go_wp2_with fail
          refine (A.out _).mono ?_
          rintro e w1 ⟨rfl, rfl⟩
          go_wp2_with fail
          refine (R.out _).mono ?_
          rintro e w1 ⟨rfl, rfl⟩
          clear A R
          go_wp2
          go_loop [24] (fun i => ∃ k : Nat, k ≤ s.size ∧ i = .int .i64 k ∧ Hid (inAll s.data.toList = inAll (s.data.toList.drop k))) (fun i => s.size - (intOf i).toNat)
          case atStart => exact ⟨0, Nat.zero_le _, rfl, by simp [Hid]⟩
          case round =>
            obtain ⟨k, hk, rfl, hrr⟩ := hrel
            by_cases hlt : k < s.size
            · have hd1 : s.data.toList.drop k = s[k] :: s.data.toList.drop (k + 1) := by
                rw [List.drop_eq_getElem_cons (by omega)]
                rfl
              have hr2 : Hid (inAll s.data.toList = (inwN s[k].toNat && inAll (s.data.toList.drop (k + 1)))) := by
                have h := hrr.out
                rw [hd1] at h
                exact h
              have hlt' : (k : Int) < s.size := by omega
              have hC := s[k].toNat_lt
              have A : Hid (∀ W : World, Calls Tryz.prog 99 #[.int .u8 s[k].toNat] W fun e w' => e = .returned (.bool (lowN s[k].toNat)) ∧ w' = W) := fun W => aletter_any _ W hC
              clear hrr hd1
              obtain ⟨c, ec⟩ : ∃ c : Nat, Hid (s[k].toNat = c) := ⟨_, (show s[k].toNat = s[k].toNat from rfl)⟩
              rw [ec.out] at A hr2 hC
              have ec2 := ec.out
              cases hA : lowN c with
              | true =>
                have hr3 : Hid (inAll s.data.toList = inAll (s.data.toList.drop (k + 1))) := by
                  have h := hr2.out
                  have hi : inwN c = true := by unfold inwN; rw [hA]; rfl
                  rw [hi, Bool.true_and] at h
                  exact h
                rw [hA] at A
                go_wp2_with fail
                refine (A.out _).mono ?_
                rintro e w1 ⟨rfl, rfl⟩
                clear A
                go_wp2
                exact ⟨⟨k + 1, by omega, by go_num, hr3⟩, by simp [intOf]; omega⟩
              | false =>
                rw [hA] at A
                by_cases hI : inwN c = true
                · have hr3 : Hid (inAll s.data.toList = inAll (s.data.toList.drop (k + 1))) := by
                    have h := hr2.out
                    rw [hI, Bool.true_and] at h
                    exact h
                  have hx : (48 ≤ c ∧ c ≤ 57) ∨ c = 95 := by
                    unfold inwN digN at hI
                    rw [hA] at hI
                    simpa using hI
                  rcases hx with ⟨x1, x2⟩ | x3
                  · have y1 : ¬ (c : Int) < 48 := by omega
                    have y2 : ¬ (57 : Int) < c := by omega
                    clear hI
                    go_wp2_with fail
                    refine (A.out _).mono ?_
                    rintro e w1 ⟨rfl, rfl⟩
                    clear A
                    go_wp2
                    exact ⟨⟨k + 1, by omega, by go_num, hr3⟩, by simp [intOf]; omega⟩
                  · subst x3
                    clear hI
                    go_wp2_with fail
                    refine (A.out _).mono ?_
                    rintro e w1 ⟨rfl, rfl⟩
                    clear A
                    go_wp2
                    exact ⟨⟨k + 1, by omega, by go_num, hr3⟩, by simp [intOf]; omega⟩
                · have hI' : inwN c = false := by simpa using hI
                  have hr3 : Hid (inAll s.data.toList = false) := by
                    have h := hr2.out
                    rw [hI', Bool.false_and] at h
                    exact h
                  have hx : (c < 48 ∨ 57 < c) ∧ c ≠ 95 := by
                    unfold inwN digN at hI'
                    rw [hA] at hI'
                    simp at hI'
                    omega
                  have y3 : ((c : Int) == 95) = false := by simp; omega
                  clear hI hI'
                  rcases hx.1 with x1 | x1
                  · have y1 : (c : Int) < 48 := by omega
                    go_wp2_with fail
                    refine (A.out _).mono ?_
                    rintro e w1 ⟨rfl, rfl⟩
                    clear A
                    go_wp2
                    go_ret
                    exact ⟨retb hr3.out.symm, rfl⟩
                  · have y1 : ¬ (c : Int) < 48 := by omega
                    have y2 : (57 : Int) < c := by omega
                    go_wp2_with fail
                    refine (A.out _).mono ?_
                    rintro e w1 ⟨rfl, rfl⟩
                    clear A
                    go_wp2
                    go_ret
                    exact ⟨retb hr3.out.symm, rfl⟩
            · have hlt' : ¬ (k : Int) < s.size := by omega
              have hr3 : Hid (inAll s.data.toList = true) := by
                have h := hrr.out
                rw [List.drop_eq_nil_of_le (by omega)] at h
                exact h
              go_wp2
              go_ret
              exact ⟨retb hr3.out.symm, rfl⟩
      · have hb' : lowN (hd s.data.toList) = false := by simpa using hb
        have hn : Hid (nameB s = false) := by unfold Hid nameB nameL; rw [hb']; simp
        rw [hn.out]
        rw [hb'] at A
        clear hh hb hb'
        go_enter Tryz.func73, Tryz.ntmps73
        go_wp2_with fail
        refine (A.out _).mono ?_
        rintro e w1 ⟨rfl, rfl⟩
        go_wp2
        go_ret
        exact ⟨rfl, rfl⟩

end Go.Proofs.YticmebamclacaaaGreatDoor

namespace Go.Proofs.YticmebamclacaaaGreatDoor
open Go.RowKit Go.Extern.Stop Go.Stop Go.Extern
set_option linter.unusedVariables false

/-- What errors.As asks of the variable errors.errorType. -/
def ErrT (w : World) : Prop := w.cell? ⟨0, 0, none⟩ = some (.iface 154 (.agg #[.pointer (some ⟨9, 55, none⟩)])) ∧ 0 < w.heap.size
theorem ErrT.below {w W : World} (h : ErrT w) (hb : Below w.heap.size w W) : ErrT W := ⟨(hb.cell (p := ⟨0, 0, none⟩) h.2).trans h.1, Nat.lt_of_lt_of_le h.2 hb.size⟩

theorem as_nil (t : Value) (w : World) :
    Calls Tryz.prog 47 #[.nilIface, t] w fun e w' => e = .returned (.bool false) ∧ w' = w := by
  go_enter Tryz.func47, Tryz.ntmps47
  go_wp2
  go_ret
  exact ⟨rfl, rfl⟩
theorem rlm (z : Sem Value) (f : TypeId → Addr → Nat → Nat → Sem Value) (v : Value) :
    ReflectliteValue.method z f #[v] = (do match ← ReflectliteValue.parts v with | none => z | some (t, a, fl) => f t a fl (fl % 32)) := rfl
theorem rls (v x : Value) : ReflectliteValue.set #[v, x] = (do
    let (some (dst, a, fl), some (src, b, _)) := (← ReflectliteValue.parts v, ← ReflectliteValue.parts x)
      | unsupported (.noEntry "extern/(internal/reflectlite.Value).Set.zeroValue")
    if fl / ReflectliteValue.flagAddr % 2 == 0 then unsupported (.noEntry "extern/(internal/reflectlite.Value).Set.unaddressable")
    let val ← loadVar src b
    if ← Rtype.directlyAssignable dst src then storeVar dst a val
    else if ← Rtype.implements dst src then
      if (← Rtype.kind src) == 20 then
        match val with
        | .nilIface => unsupported (.noEntry "extern/reflectlite: a nil value of one interface type handed on as a value of another")
        | _ => storeVar dst a val
      else storeVar dst a (.iface src val)
    else panicString ("reflectlite.Set: value of type " ++ (← Rtype.spelt src) ++ " is not assignable to type " ++ (← Rtype.spelt dst))
    pure (.tuple #[])) := rfl
theorem methodKind (h : Value) (w : World) : (Go.method 124 154 (.agg #[h]) "Kind").run Tryz.prog w = .ok (199, h) w := by kernel_rfl
theorem methodElem (h : Value) (w : World) : (Go.method 124 154 (.agg #[h]) "Elem").run Tryz.prog w = .ok (212, .agg #[h]) w := by kernel_rfl
theorem methodImplements (h : Value) (w : World) : (Go.method 124 154 (.agg #[h]) "Implements").run Tryz.prog w = .ok (213, .agg #[h]) w := by kernel_rfl
theorem methodAssignableTo (h : Value) (w : World) : (Go.method 124 154 (.agg #[h]) "AssignableTo").run Tryz.prog w = .ok (210, .agg #[h]) w := by kernel_rfl
theorem valueOfPF (t : Addr) (w : World) : (ReflectliteValue.unpack (.iface 94 (.pointer (some t)))).run Tryz.prog w = .ok (.agg #[.pointer (some ⟨9, 94, none⟩), .pointer (some ⟨w.heap.size, 0, none⟩), .int .u64 150]) (w.alloc (.cells #[.pointer (some t)] 94)) := by kernel_rfl
theorem typePF (a : Addr) (w : World) : (ReflectliteValue.methodAny (ReflectliteValue.valueError "reflectlite.Value.Type" 0) (fun t _ _ _ => ReflectliteType.toType t) #[.agg #[.pointer (some ⟨9, 94, none⟩), .pointer (some a), .int .u64 150]]).run Tryz.prog w = .ok (.iface 154 (.agg #[.pointer (some ⟨9, 94, none⟩)])) w := by kernel_rfl
theorem kindPF (w : World) : ((ReflectliteType.abiMethod fun t => (fun a : Nat => Value.int IntKind.u8 (a : Int)) <$> Rtype.kind t) #[.pointer (some ⟨9, 94, none⟩)]).run Tryz.prog w = .ok (.int .u8 22) w := by kernel_rfl
theorem kindEF (w : World) : ((ReflectliteType.abiMethod fun t => (fun a : Nat => Value.int IntKind.u8 (a : Int)) <$> Rtype.kind t) #[.pointer (some ⟨9, 92, none⟩)]).run Tryz.prog w = .ok (.int .u8 25) w := by kernel_rfl
theorem partsPF (a : Addr) (w : World) : (ReflectliteValue.parts (.agg #[.pointer (some ⟨9, 94, none⟩), .pointer (some a), .int .u64 150])).run Tryz.prog w = .ok (some (94, a, 150)) w := by kernel_rfl
theorem isNilF (a p : Addr) (W : World) (ha : W.cell? a = some (.pointer (some p))) :
    (ReflectliteValue.method (ReflectliteValue.valueError "reflectlite.Value.IsNil" 0) ReflectliteValue.isNil #[.agg #[.pointer (some ⟨9, 94, none⟩), .pointer (some a), .int .u64 150]]).run Tryz.prog W = .ok (.bool false) W := by
  rw [rlm]
  simp only [Sem.run_bind, partsPF, Result.andThen]
  simp [ReflectliteValue.isNil, loadVar, isAgg, underlying, Tryz.underlying94, ha, Result.andThen]
theorem elemTF (w : World) : (ReflectliteType.method ReflectliteType.elem #[.agg #[.pointer (some ⟨9, 94, none⟩)]]).run Tryz.prog w = .ok (.iface 154 (.agg #[.pointer (some ⟨9, 92, none⟩)])) w := by kernel_rfl
theorem implF (w : World) : (ReflectliteType.relation "Implements" ReflectliteType.implements_ #[.agg #[.pointer (some ⟨9, 92, none⟩)], .iface 154 (.agg #[.pointer (some ⟨9, 55, none⟩)])]).run Tryz.prog w = .ok (.bool true) w := by kernel_rfl
theorem typeOfF (v : Value) (w : World) : (ReflectliteType.typeOf #[.iface 92 v]).run Tryz.prog w = .ok (.iface 154 (.agg #[.pointer (some ⟨9, 92, none⟩)])) w := by kernel_rfl
theorem asgnF (w : World) : (ReflectliteType.relation "AssignableTo" ReflectliteType.assignableTo #[.agg #[.pointer (some ⟨9, 92, none⟩)], .iface 154 (.agg #[.pointer (some ⟨9, 92, none⟩)])]).run Tryz.prog w = .ok (.bool true) w := by kernel_rfl
theorem valueOfEF (n : Int) (w : World) : (ReflectliteValue.unpack (.iface 92 (.agg #[.int .i64 n]))).run Tryz.prog w = .ok (.agg #[.pointer (some ⟨9, 92, none⟩), .pointer (some ⟨w.heap.size, 0, none⟩), .int .u64 153]) (w.alloc (.cells #[.int .i64 n] 92)) := by kernel_rfl
theorem elemOfF (w : World) : (Rtype.elem? 94).run Tryz.prog w = .ok (some 92) w := by kernel_rfl
theorem mkF (p : Addr) (w : World) : (ReflectliteValue.mk 92 p ReflectliteValue.flagAddr).run Tryz.prog w = .ok (.agg #[.pointer (some ⟨9, 92, none⟩), .pointer (some p), .int .u64 409]) w := by kernel_rfl
theorem elemVF (a p : Addr) (W : World) (ha : W.cell? a = some (.pointer (some p))) :
    (ReflectliteValue.method (ReflectliteValue.valueError "reflectlite.Value.Elem" 0) ReflectliteValue.elem #[.agg #[.pointer (some ⟨9, 94, none⟩), .pointer (some a), .int .u64 150]]).run Tryz.prog W = .ok (.agg #[.pointer (some ⟨9, 92, none⟩), .pointer (some p), .int .u64 409]) W := by
  rw [rlm]
  simp only [Sem.run_bind, partsPF, Result.andThen]
  simp [ReflectliteValue.elem, loadVar, isAgg, underlying, Tryz.underlying94, ha, Result.andThen, elemOfF, mkF]
theorem partsAF (a : Addr) (w : World) : (ReflectliteValue.parts (.agg #[.pointer (some ⟨9, 92, none⟩), .pointer (some a), .int .u64 409])).run Tryz.prog w = .ok (some (92, a, 409)) w := by kernel_rfl
theorem partsEF (a : Addr) (w : World) : (ReflectliteValue.parts (.agg #[.pointer (some ⟨9, 92, none⟩), .pointer (some a), .int .u64 153])).run Tryz.prog w = .ok (some (92, a, 153)) w := by kernel_rfl
theorem directF (w : World) : (Rtype.directlyAssignable 92 92).run Tryz.prog w = .ok true w := by kernel_rfl
theorem valueOfPL (t : Addr) (w : World) : (ReflectliteValue.unpack (.iface 107 (.pointer (some t)))).run Tryz.prog w = .ok (.agg #[.pointer (some ⟨9, 107, none⟩), .pointer (some ⟨w.heap.size, 0, none⟩), .int .u64 150]) (w.alloc (.cells #[.pointer (some t)] 107)) := by kernel_rfl
theorem typePL (a : Addr) (w : World) : (ReflectliteValue.methodAny (ReflectliteValue.valueError "reflectlite.Value.Type" 0) (fun t _ _ _ => ReflectliteType.toType t) #[.agg #[.pointer (some ⟨9, 107, none⟩), .pointer (some a), .int .u64 150]]).run Tryz.prog w = .ok (.iface 154 (.agg #[.pointer (some ⟨9, 107, none⟩)])) w := by kernel_rfl
theorem kindPL (w : World) : ((ReflectliteType.abiMethod fun t => (fun a : Nat => Value.int IntKind.u8 (a : Int)) <$> Rtype.kind t) #[.pointer (some ⟨9, 107, none⟩)]).run Tryz.prog w = .ok (.int .u8 22) w := by kernel_rfl
theorem kindEL (w : World) : ((ReflectliteType.abiMethod fun t => (fun a : Nat => Value.int IntKind.u8 (a : Int)) <$> Rtype.kind t) #[.pointer (some ⟨9, 106, none⟩)]).run Tryz.prog w = .ok (.int .u8 25) w := by kernel_rfl
theorem partsPL (a : Addr) (w : World) : (ReflectliteValue.parts (.agg #[.pointer (some ⟨9, 107, none⟩), .pointer (some a), .int .u64 150])).run Tryz.prog w = .ok (some (107, a, 150)) w := by kernel_rfl
theorem isNilL (a p : Addr) (W : World) (ha : W.cell? a = some (.pointer (some p))) :
    (ReflectliteValue.method (ReflectliteValue.valueError "reflectlite.Value.IsNil" 0) ReflectliteValue.isNil #[.agg #[.pointer (some ⟨9, 107, none⟩), .pointer (some a), .int .u64 150]]).run Tryz.prog W = .ok (.bool false) W := by
  rw [rlm]
  simp only [Sem.run_bind, partsPL, Result.andThen]
  simp [ReflectliteValue.isNil, loadVar, isAgg, underlying, Tryz.underlying107, ha, Result.andThen]
theorem elemTL (w : World) : (ReflectliteType.method ReflectliteType.elem #[.agg #[.pointer (some ⟨9, 107, none⟩)]]).run Tryz.prog w = .ok (.iface 154 (.agg #[.pointer (some ⟨9, 106, none⟩)])) w := by kernel_rfl
theorem implL (w : World) : (ReflectliteType.relation "Implements" ReflectliteType.implements_ #[.agg #[.pointer (some ⟨9, 106, none⟩)], .iface 154 (.agg #[.pointer (some ⟨9, 55, none⟩)])]).run Tryz.prog w = .ok (.bool true) w := by kernel_rfl
theorem typeOfL (v : Value) (w : World) : (ReflectliteType.typeOf #[.iface 106 v]).run Tryz.prog w = .ok (.iface 154 (.agg #[.pointer (some ⟨9, 106, none⟩)])) w := by kernel_rfl
theorem asgnL (w : World) : (ReflectliteType.relation "AssignableTo" ReflectliteType.assignableTo #[.agg #[.pointer (some ⟨9, 106, none⟩)], .iface 154 (.agg #[.pointer (some ⟨9, 106, none⟩)])]).run Tryz.prog w = .ok (.bool true) w := by kernel_rfl
theorem valueOfEL (n : Int) (e : Value) (w : World) : (ReflectliteValue.unpack (.iface 106 (.agg #[.int .i64 n, e]))).run Tryz.prog w = .ok (.agg #[.pointer (some ⟨9, 106, none⟩), .pointer (some ⟨w.heap.size, 0, none⟩), .int .u64 153]) (w.alloc (.cells #[.int .i64 n, e] 106)) := by kernel_rfl
theorem elemOfL (w : World) : (Rtype.elem? 107).run Tryz.prog w = .ok (some 106) w := by kernel_rfl
theorem mkL (p : Addr) (w : World) : (ReflectliteValue.mk 106 p ReflectliteValue.flagAddr).run Tryz.prog w = .ok (.agg #[.pointer (some ⟨9, 106, none⟩), .pointer (some p), .int .u64 409]) w := by kernel_rfl
theorem elemVL (a p : Addr) (W : World) (ha : W.cell? a = some (.pointer (some p))) :
    (ReflectliteValue.method (ReflectliteValue.valueError "reflectlite.Value.Elem" 0) ReflectliteValue.elem #[.agg #[.pointer (some ⟨9, 107, none⟩), .pointer (some a), .int .u64 150]]).run Tryz.prog W = .ok (.agg #[.pointer (some ⟨9, 106, none⟩), .pointer (some p), .int .u64 409]) W := by
  rw [rlm]
  simp only [Sem.run_bind, partsPL, Result.andThen]
  simp [ReflectliteValue.elem, loadVar, isAgg, underlying, Tryz.underlying107, ha, Result.andThen, elemOfL, mkL]
theorem partsAL (a : Addr) (w : World) : (ReflectliteValue.parts (.agg #[.pointer (some ⟨9, 106, none⟩), .pointer (some a), .int .u64 409])).run Tryz.prog w = .ok (some (106, a, 409)) w := by kernel_rfl
theorem partsEL (a : Addr) (w : World) : (ReflectliteValue.parts (.agg #[.pointer (some ⟨9, 106, none⟩), .pointer (some a), .int .u64 153])).run Tryz.prog w = .ok (some (106, a, 153)) w := by kernel_rfl
theorem directL (w : World) : (Rtype.directlyAssignable 106 106).run Tryz.prog w = .ok true w := by kernel_rfl
theorem asgnFL (w : World) : (ReflectliteType.relation "AssignableTo" ReflectliteType.assignableTo #[.agg #[.pointer (some ⟨9, 92, none⟩)], .iface 154 (.agg #[.pointer (some ⟨9, 106, none⟩)])]).run Tryz.prog w = .ok (.bool false) w := by kernel_rfl
theorem asgnLF (w : World) : (ReflectliteType.relation "AssignableTo" ReflectliteType.assignableTo #[.agg #[.pointer (some ⟨9, 106, none⟩)], .iface 154 (.agg #[.pointer (some ⟨9, 92, none⟩)])]).run Tryz.prog w = .ok (.bool false) w := by kernel_rfl
theorem noAsF (v : Value) (xT : TypeId) (w : World) : (Instr.typeAssert (.iface 92 v) xT 159 true).run Tryz.prog w = .ok (.tuple #[.nilIface, .bool false]) w := run_typeAssert_lacksB Tryz.underlying159 (by kernel_rfl) (by kernel_rfl) v xT w
theorem noUnF (v : Value) (xT : TypeId) (w : World) : (Instr.typeAssert (.iface 92 v) xT 162 true).run Tryz.prog w = .ok (.tuple #[.nilIface, .bool false]) w := run_typeAssert_lacksB Tryz.underlying162 (by kernel_rfl) (by kernel_rfl) v xT w
theorem noUsF (v : Value) (xT : TypeId) (w : World) : (Instr.typeAssert (.iface 92 v) xT 164 true).run Tryz.prog w = .ok (.tuple #[.nilIface, .bool false]) w := run_typeAssert_lacksB Tryz.underlying164 (by kernel_rfl) (by kernel_rfl) v xT w
theorem noAsL (v : Value) (xT : TypeId) (w : World) : (Instr.typeAssert (.iface 106 v) xT 159 true).run Tryz.prog w = .ok (.tuple #[.nilIface, .bool false]) w := run_typeAssert_lacksB Tryz.underlying159 (by kernel_rfl) (by kernel_rfl) v xT w
theorem noUnL (v : Value) (xT : TypeId) (w : World) : (Instr.typeAssert (.iface 106 v) xT 162 true).run Tryz.prog w = .ok (.tuple #[.iface 106 v, .bool true]) w := run_typeAssert_hasB Tryz.underlying162 (by kernel_rfl) v xT w
theorem methodUn (v : Value) (w : World) : (Go.method 162 106 v "Unwrap").run Tryz.prog w = .ok (205, v) w := by kernel_rfl

theorem setF (ta b : Addr) (n o : Int) (W : World) (hb : W.cell? b = some (.int .i64 n)) (ht : W.cell? ta = some (.int .i64 o)) (hf : W.frozen? ta = false) :
    (ReflectliteValue.set #[.agg #[.pointer (some ⟨9, 92, none⟩), .pointer (some ta), .int .u64 409], .agg #[.pointer (some ⟨9, 92, none⟩), .pointer (some b), .int .u64 153]]).run Tryz.prog W = .ok (.tuple #[]) (W.setCell ta (.int .i64 n)) := by
  rw [rls]
  simp only [Sem.run_bind, partsAF, partsEF, Result.andThen]
  simp [ReflectliteValue.flagAddr, loadVar, isAgg, underlying, Tryz.underlying92, hb, Result.andThen, directF, storeVar, Value.cells, storeCells, Addr.add, go_sem]
  simp [ht, hf]

theorem setL (T B : Nat) (n o : Int) (e u : Value) (W : World) (hb : W.cell? ⟨B, 0, none⟩ = some (.int .i64 n)) (hb1 : W.cell? ⟨B, 1, none⟩ = some e) (ht : W.cell? ⟨T, 0, none⟩ = some (.int .i64 o)) (ht1 : W.cell? ⟨T, 1, none⟩ = some u) (hf : W.frozen? ⟨T, 0, none⟩ = false) (hf1 : W.frozen? ⟨T, 1, none⟩ = false) (he : ∃ k z, e = .iface k z) :
    (ReflectliteValue.set #[.agg #[.pointer (some ⟨9, 106, none⟩), .pointer (some ⟨T, 0, none⟩), .int .u64 409], .agg #[.pointer (some ⟨9, 106, none⟩), .pointer (some ⟨B, 0, none⟩), .int .u64 153]]).run Tryz.prog W = .ok (.tuple #[]) ((W.setCell ⟨T, 0, none⟩ (.int .i64 n)).setCell ⟨T, 1, none⟩ e) := by
  obtain ⟨k, z, rfl⟩ := he
  rw [rls]
  simp only [Sem.run_bind, partsAL, partsEL, Result.andThen]
  simp [ReflectliteValue.flagAddr, loadVar, isAgg, underlying, Tryz.underlying106, hb, hb1, Result.andThen, directL, storeVar, Value.cells, storeCells, Addr.add, go_sem]
  simp [ht, hf]
  have hq : (W.setCell ⟨T, 0, none⟩ (Value.int IntKind.i64 n)).cell? ⟨T, 1, none⟩ = some u := by simp [go_sem, ht1]
  rw [hq]
  simp [hf1]

end Go.Proofs.YticmebamclacaaaGreatDoor

namespace Go.Proofs.YticmebamclacaaaGreatDoor
open Go.RowKit Go.Extern.Stop Go.Stop Go.Extern
set_option linter.unusedVariables false

set_option maxHeartbeats 4000000 in
theorem as_hitF (n o : Int) (T : Nat) (w : World) (hg : ErrT w) (ht0 : w.cell? ⟨T, 0, none⟩ = some (.int .i64 o)) (hf0 : w.frozen? ⟨T, 0, none⟩ = false) :
    Calls Tryz.prog 47 #[.iface 92 (.agg #[.int .i64 n]), .iface 94 (.pointer (some ⟨T, 0, none⟩))] w fun ev w' => ev = .returned (.bool true) ∧ w' = ((((w.alloc (.cells #[.pointer (some ⟨T, 0, none⟩)] 94)).alloc (.cells #[.pointer (some ⟨9, 94, none⟩), .pointer (some ⟨w.heap.size, 0, none⟩), .int .u64 150] 121)).alloc (.cells #[.pointer (some ⟨9, 94, none⟩), .pointer (some ⟨w.heap.size, 0, none⟩), .int .u64 150] 121)).alloc (.cells #[.int .i64 n] 92)).setCell ⟨T, 0, none⟩ (.int .i64 n) := by
  have h1 := @run_callFunc_extern Tryz.prog 64 _ (fun args => ReflectliteValue.unpack (args.getD 0 (.tuple #[]))) Tryz.func64 (by kernel_rfl) (by kernel_rfl) (by kernel_rfl) (by kernel_rfl)
  have h2 := @run_callFunc_extern Tryz.prog 65 _ (ReflectliteValue.methodAny (ReflectliteValue.valueError "reflectlite.Value.Type" 0) (fun t _ _ _ => ReflectliteType.toType t)) Tryz.func65 (by kernel_rfl) (by kernel_rfl) (by kernel_rfl) (by kernel_rfl)
  have h3 := @run_callFunc_extern Tryz.prog 66 _ (ReflectliteValue.method (ReflectliteValue.valueError "reflectlite.Value.IsNil" 0) ReflectliteValue.isNil) Tryz.func66 (by kernel_rfl) (by kernel_rfl) (by kernel_rfl) (by kernel_rfl)
  have h4 := @run_callFunc_extern Tryz.prog 199 _ (ReflectliteType.abiMethod fun t => do pure (.int .u8 (← Rtype.kind t))) Tryz.func199 (by kernel_rfl) (by kernel_rfl) (by kernel_rfl) (by kernel_rfl)
  have h5 := @run_callFunc_extern Tryz.prog 212 _ (ReflectliteType.method ReflectliteType.elem) Tryz.func212 (by kernel_rfl) (by kernel_rfl) (by kernel_rfl) (by kernel_rfl)
  have h6 := @run_callFunc_extern Tryz.prog 213 _ (ReflectliteType.relation "Implements" ReflectliteType.implements_) Tryz.func213 (by kernel_rfl) (by kernel_rfl) (by kernel_rfl) (by kernel_rfl)
  have h7 := @run_callFunc_extern Tryz.prog 93 _ ReflectliteType.typeOf Tryz.func93 (by kernel_rfl) (by kernel_rfl) (by kernel_rfl) (by kernel_rfl)
  have h8 := @run_callFunc_extern Tryz.prog 210 _ (ReflectliteType.relation "AssignableTo" ReflectliteType.assignableTo) Tryz.func210 (by kernel_rfl) (by kernel_rfl) (by kernel_rfl) (by kernel_rfl)
  have h9 := @run_callFunc_extern Tryz.prog 94 _ (ReflectliteValue.method (ReflectliteValue.valueError "reflectlite.Value.Elem" 0) ReflectliteValue.elem) Tryz.func94 (by kernel_rfl) (by kernel_rfl) (by kernel_rfl) (by kernel_rfl)
  have h10 := @run_callFunc_extern Tryz.prog 95 _ ReflectliteValue.set Tryz.func95 (by kernel_rfl) (by kernel_rfl) (by kernel_rfl) (by kernel_rfl)
  have mK := methodKind
  have mE := methodElem
  have mI := methodImplements
  have mA := methodAssignableTo
  have valueofpq := valueOfPF
  have typepq := typePF
  have kindpq := kindPF
  have kindeq := kindEF
  have elemtq := elemTF
  have implq := implF
  have n8 := isNilF ⟨w.heap.size, 0, none⟩ ⟨T, 0, none⟩ ((w.alloc (.cells #[.pointer (some ⟨T, 0, none⟩)] 94)).alloc (.cells #[.pointer (some ⟨9, 94, none⟩), .pointer (some ⟨w.heap.size, 0, none⟩), .int .u64 150] 121)) (by simp)
  have hg2 : ((w.alloc (.cells #[.pointer (some ⟨T, 0, none⟩)] 94)).alloc (.cells #[.pointer (some ⟨9, 94, none⟩), .pointer (some ⟨w.heap.size, 0, none⟩), .int .u64 150] 121)).cell? ⟨0, 0, none⟩ = some (.iface 154 (.agg #[.pointer (some ⟨9, 55, none⟩)])) := by
    rw [World.cell?_alloc_lt _ _ ⟨0, 0, none⟩ (by have := hg.2; first | (simp; done) | (simp; omega)), World.cell?_alloc_lt _ _ ⟨0, 0, none⟩ hg.2]; exact hg.1
  have tO := typeOfF
  have aS := asgnF
  have vE := valueOfEF
  have htl : T < w.heap.size := World.block_lt_of_cell? _ _ ht0
  have el := elemVF ⟨w.heap.size, 0, none⟩ ⟨T, 0, none⟩ (((w.alloc (.cells #[.pointer (some ⟨T, 0, none⟩)] 94)).alloc (.cells #[.pointer (some ⟨9, 94, none⟩), .pointer (some ⟨w.heap.size, 0, none⟩), .int .u64 150] 121)).alloc (.cells #[.pointer (some ⟨9, 94, none⟩), .pointer (some ⟨w.heap.size, 0, none⟩), .int .u64 150] 121)) (by rw [World.cell?_alloc_lt _ _ ⟨w.heap.size, 0, none⟩ (by simp; omega)]; simp)
  have st := setF ⟨T, 0, none⟩ ⟨w.heap.size + 1 + 1 + 1, 0, none⟩ n o ((((w.alloc (.cells #[.pointer (some ⟨T, 0, none⟩)] 94)).alloc (.cells #[.pointer (some ⟨9, 94, none⟩), .pointer (some ⟨w.heap.size, 0, none⟩), .int .u64 150] 121)).alloc (.cells #[.pointer (some ⟨9, 94, none⟩), .pointer (some ⟨w.heap.size, 0, none⟩), .int .u64 150] 121)).alloc (.cells #[.int .i64 n] 92)) (by rw [World.cell?_alloc_at _ _ _ _ (by simp)]; rfl) (by rw [World.cell?_alloc_lt _ _ ⟨T, 0, none⟩ (by simp; omega), World.cell?_alloc_lt _ _ ⟨T, 0, none⟩ (by simp; omega), World.cell?_alloc_lt _ _ ⟨T, 0, none⟩ (by simp; omega), World.cell?_alloc_lt _ _ ⟨T, 0, none⟩ htl]; exact ht0) (by rw [World.frozen?_alloc_old _ _ ⟨T, 0, none⟩ (by simp; omega), World.frozen?_alloc_old _ _ ⟨T, 0, none⟩ (by simp; omega), World.frozen?_alloc_old _ _ ⟨T, 0, none⟩ (by simp; omega), World.frozen?_alloc_old _ _ ⟨T, 0, none⟩ (Nat.ne_of_lt htl)]; exact hf0)
  go_enter Tryz.func47, Tryz.ntmps47
  go_wp2
  refine wp_loop_rounds 1 ?_
  rw [rounds_succ]
  go_wp2
  go_ret
  exact ⟨rfl, rfl⟩

set_option maxHeartbeats 4000000 in
theorem as_hitL (n o : Int) (e u : Value) (T : Nat) (w : World) (hg : ErrT w) (ht0 : w.cell? ⟨T, 0, none⟩ = some (.int .i64 o)) (ht1 : w.cell? ⟨T, 1, none⟩ = some u) (hf0 : w.frozen? ⟨T, 0, none⟩ = false) (hf1 : w.frozen? ⟨T, 1, none⟩ = false) (he : ∃ k z, e = .iface k z) :
    Calls Tryz.prog 47 #[.iface 106 (.agg #[.int .i64 n, e]), .iface 107 (.pointer (some ⟨T, 0, none⟩))] w fun ev w' => ev = .returned (.bool true) ∧ w' = (((((w.alloc (.cells #[.pointer (some ⟨T, 0, none⟩)] 107)).alloc (.cells #[.pointer (some ⟨9, 107, none⟩), .pointer (some ⟨w.heap.size, 0, none⟩), .int .u64 150] 121)).alloc (.cells #[.pointer (some ⟨9, 107, none⟩), .pointer (some ⟨w.heap.size, 0, none⟩), .int .u64 150] 121)).alloc (.cells #[.int .i64 n, e] 106)).setCell ⟨T, 0, none⟩ (.int .i64 n)).setCell ⟨T, 1, none⟩ e := by
  have h1 := @run_callFunc_extern Tryz.prog 64 _ (fun args => ReflectliteValue.unpack (args.getD 0 (.tuple #[]))) Tryz.func64 (by kernel_rfl) (by kernel_rfl) (by kernel_rfl) (by kernel_rfl)
  have h2 := @run_callFunc_extern Tryz.prog 65 _ (ReflectliteValue.methodAny (ReflectliteValue.valueError "reflectlite.Value.Type" 0) (fun t _ _ _ => ReflectliteType.toType t)) Tryz.func65 (by kernel_rfl) (by kernel_rfl) (by kernel_rfl) (by kernel_rfl)
  have h3 := @run_callFunc_extern Tryz.prog 66 _ (ReflectliteValue.method (ReflectliteValue.valueError "reflectlite.Value.IsNil" 0) ReflectliteValue.isNil) Tryz.func66 (by kernel_rfl) (by kernel_rfl) (by kernel_rfl) (by kernel_rfl)
  have h4 := @run_callFunc_extern Tryz.prog 199 _ (ReflectliteType.abiMethod fun t => do pure (.int .u8 (← Rtype.kind t))) Tryz.func199 (by kernel_rfl) (by kernel_rfl) (by kernel_rfl) (by kernel_rfl)
  have h5 := @run_callFunc_extern Tryz.prog 212 _ (ReflectliteType.method ReflectliteType.elem) Tryz.func212 (by kernel_rfl) (by kernel_rfl) (by kernel_rfl) (by kernel_rfl)
  have h6 := @run_callFunc_extern Tryz.prog 213 _ (ReflectliteType.relation "Implements" ReflectliteType.implements_) Tryz.func213 (by kernel_rfl) (by kernel_rfl) (by kernel_rfl) (by kernel_rfl)
  have h7 := @run_callFunc_extern Tryz.prog 93 _ ReflectliteType.typeOf Tryz.func93 (by kernel_rfl) (by kernel_rfl) (by kernel_rfl) (by kernel_rfl)
  have h8 := @run_callFunc_extern Tryz.prog 210 _ (ReflectliteType.relation "AssignableTo" ReflectliteType.assignableTo) Tryz.func210 (by kernel_rfl) (by kernel_rfl) (by kernel_rfl) (by kernel_rfl)
  have h9 := @run_callFunc_extern Tryz.prog 94 _ (ReflectliteValue.method (ReflectliteValue.valueError "reflectlite.Value.Elem" 0) ReflectliteValue.elem) Tryz.func94 (by kernel_rfl) (by kernel_rfl) (by kernel_rfl) (by kernel_rfl)
  have h10 := @run_callFunc_extern Tryz.prog 95 _ ReflectliteValue.set Tryz.func95 (by kernel_rfl) (by kernel_rfl) (by kernel_rfl) (by kernel_rfl)
  have mK := methodKind
  have mE := methodElem
  have mI := methodImplements
  have mA := methodAssignableTo
  have valueofpq := valueOfPL
  have typepq := typePL
  have kindpq := kindPL
  have kindeq := kindEL
  have elemtq := elemTL
  have implq := implL
  have n8 := isNilL ⟨w.heap.size, 0, none⟩ ⟨T, 0, none⟩ ((w.alloc (.cells #[.pointer (some ⟨T, 0, none⟩)] 107)).alloc (.cells #[.pointer (some ⟨9, 107, none⟩), .pointer (some ⟨w.heap.size, 0, none⟩), .int .u64 150] 121)) (by simp)
  have hg2 : ((w.alloc (.cells #[.pointer (some ⟨T, 0, none⟩)] 107)).alloc (.cells #[.pointer (some ⟨9, 107, none⟩), .pointer (some ⟨w.heap.size, 0, none⟩), .int .u64 150] 121)).cell? ⟨0, 0, none⟩ = some (.iface 154 (.agg #[.pointer (some ⟨9, 55, none⟩)])) := by
    rw [World.cell?_alloc_lt _ _ ⟨0, 0, none⟩ (by have := hg.2; first | (simp; done) | (simp; omega)), World.cell?_alloc_lt _ _ ⟨0, 0, none⟩ hg.2]; exact hg.1
  have tO := typeOfL
  have aS := asgnL
  have vE := valueOfEL
  have htl : T < w.heap.size := World.block_lt_of_cell? _ _ ht0
  have el := elemVL ⟨w.heap.size, 0, none⟩ ⟨T, 0, none⟩ (((w.alloc (.cells #[.pointer (some ⟨T, 0, none⟩)] 107)).alloc (.cells #[.pointer (some ⟨9, 107, none⟩), .pointer (some ⟨w.heap.size, 0, none⟩), .int .u64 150] 121)).alloc (.cells #[.pointer (some ⟨9, 107, none⟩), .pointer (some ⟨w.heap.size, 0, none⟩), .int .u64 150] 121)) (by rw [World.cell?_alloc_lt _ _ ⟨w.heap.size, 0, none⟩ (by simp; omega)]; simp)
  have st := setL T (w.heap.size + 1 + 1 + 1) n o e u ((((w.alloc (.cells #[.pointer (some ⟨T, 0, none⟩)] 107)).alloc (.cells #[.pointer (some ⟨9, 107, none⟩), .pointer (some ⟨w.heap.size, 0, none⟩), .int .u64 150] 121)).alloc (.cells #[.pointer (some ⟨9, 107, none⟩), .pointer (some ⟨w.heap.size, 0, none⟩), .int .u64 150] 121)).alloc (.cells #[.int .i64 n, e] 106)) (by rw [World.cell?_alloc_at _ _ _ _ (by simp)]; rfl) (by rw [World.cell?_alloc_at _ _ _ _ (by simp)]; rfl) (by rw [World.cell?_alloc_lt _ _ ⟨T, 0, none⟩ (by simp; omega), World.cell?_alloc_lt _ _ ⟨T, 0, none⟩ (by simp; omega), World.cell?_alloc_lt _ _ ⟨T, 0, none⟩ (by simp; omega), World.cell?_alloc_lt _ _ ⟨T, 0, none⟩ htl]; exact ht0) (by rw [World.cell?_alloc_lt _ _ ⟨T, 1, none⟩ (by simp; omega), World.cell?_alloc_lt _ _ ⟨T, 1, none⟩ (by simp; omega), World.cell?_alloc_lt _ _ ⟨T, 1, none⟩ (by simp; omega), World.cell?_alloc_lt _ _ ⟨T, 1, none⟩ htl]; exact ht1) (by rw [World.frozen?_alloc_old _ _ ⟨T, 0, none⟩ (by simp; omega), World.frozen?_alloc_old _ _ ⟨T, 0, none⟩ (by simp; omega), World.frozen?_alloc_old _ _ ⟨T, 0, none⟩ (by simp; omega), World.frozen?_alloc_old _ _ ⟨T, 0, none⟩ (Nat.ne_of_lt htl)]; exact hf0) (by rw [World.frozen?_alloc_old _ _ ⟨T, 1, none⟩ (by simp; omega), World.frozen?_alloc_old _ _ ⟨T, 1, none⟩ (by simp; omega), World.frozen?_alloc_old _ _ ⟨T, 1, none⟩ (by simp; omega), World.frozen?_alloc_old _ _ ⟨T, 1, none⟩ (Nat.ne_of_lt htl)]; exact hf1) he
  go_enter Tryz.func47, Tryz.ntmps47
  go_wp2
  refine wp_loop_rounds 1 ?_
  rw [rounds_succ]
  go_wp2
  go_ret
  exact ⟨rfl, rfl⟩

theorem unwrap_any (n : Int) (k : TypeId) (z : Value) (w : World) :
    Calls Tryz.prog 205 #[.agg #[.int .i64 n, .iface k z]] w fun ev w' => ev = .returned (.iface k z) ∧ w' = w.alloc (.cells #[.int .i64 n, .iface k z] 106) := by
  go_enter Tryz.func205, Tryz.ntmps205
  go_wp2
  go_ret
  exact ⟨rfl, rfl⟩

set_option maxHeartbeats 4000000 in
theorem as_missF (n : Int) (T : Nat) (w : World) (hg : ErrT w) :
    Calls Tryz.prog 47 #[.iface 92 (.agg #[.int .i64 n]), .iface 107 (.pointer (some ⟨T, 0, none⟩))] w fun ev w' => ev = .returned (.bool false) ∧ w' = (((w.alloc (.cells #[.pointer (some ⟨T, 0, none⟩)] 107)).alloc (.cells #[.pointer (some ⟨9, 107, none⟩), .pointer (some ⟨w.heap.size, 0, none⟩), .int .u64 150] 121)).alloc (.cells #[.pointer (some ⟨9, 107, none⟩), .pointer (some ⟨w.heap.size, 0, none⟩), .int .u64 150] 121)) := by
  have h1 := @run_callFunc_extern Tryz.prog 64 _ (fun args => ReflectliteValue.unpack (args.getD 0 (.tuple #[]))) Tryz.func64 (by kernel_rfl) (by kernel_rfl) (by kernel_rfl) (by kernel_rfl)
  have h2 := @run_callFunc_extern Tryz.prog 65 _ (ReflectliteValue.methodAny (ReflectliteValue.valueError "reflectlite.Value.Type" 0) (fun t _ _ _ => ReflectliteType.toType t)) Tryz.func65 (by kernel_rfl) (by kernel_rfl) (by kernel_rfl) (by kernel_rfl)
  have h3 := @run_callFunc_extern Tryz.prog 66 _ (ReflectliteValue.method (ReflectliteValue.valueError "reflectlite.Value.IsNil" 0) ReflectliteValue.isNil) Tryz.func66 (by kernel_rfl) (by kernel_rfl) (by kernel_rfl) (by kernel_rfl)
  have h4 := @run_callFunc_extern Tryz.prog 199 _ (ReflectliteType.abiMethod fun t => do pure (.int .u8 (← Rtype.kind t))) Tryz.func199 (by kernel_rfl) (by kernel_rfl) (by kernel_rfl) (by kernel_rfl)
  have h5 := @run_callFunc_extern Tryz.prog 212 _ (ReflectliteType.method ReflectliteType.elem) Tryz.func212 (by kernel_rfl) (by kernel_rfl) (by kernel_rfl) (by kernel_rfl)
  have h6 := @run_callFunc_extern Tryz.prog 213 _ (ReflectliteType.relation "Implements" ReflectliteType.implements_) Tryz.func213 (by kernel_rfl) (by kernel_rfl) (by kernel_rfl) (by kernel_rfl)
  have h7 := @run_callFunc_extern Tryz.prog 93 _ ReflectliteType.typeOf Tryz.func93 (by kernel_rfl) (by kernel_rfl) (by kernel_rfl) (by kernel_rfl)
  have h8 := @run_callFunc_extern Tryz.prog 210 _ (ReflectliteType.relation "AssignableTo" ReflectliteType.assignableTo) Tryz.func210 (by kernel_rfl) (by kernel_rfl) (by kernel_rfl) (by kernel_rfl)
  have h9 := @run_callFunc_extern Tryz.prog 94 _ (ReflectliteValue.method (ReflectliteValue.valueError "reflectlite.Value.Elem" 0) ReflectliteValue.elem) Tryz.func94 (by kernel_rfl) (by kernel_rfl) (by kernel_rfl) (by kernel_rfl)
  have h10 := @run_callFunc_extern Tryz.prog 95 _ ReflectliteValue.set Tryz.func95 (by kernel_rfl) (by kernel_rfl) (by kernel_rfl) (by kernel_rfl)
  have mK := methodKind
  have mE := methodElem
  have mI := methodImplements
  have mA := methodAssignableTo
  have valueofpq := valueOfPL
  have typepq := typePL
  have kindpq := kindPL
  have kindeq := kindEL
  have elemtq := elemTL
  have implq := implL
  have n8 := isNilL ⟨w.heap.size, 0, none⟩ ⟨T, 0, none⟩ ((w.alloc (.cells #[.pointer (some ⟨T, 0, none⟩)] 107)).alloc (.cells #[.pointer (some ⟨9, 107, none⟩), .pointer (some ⟨w.heap.size, 0, none⟩), .int .u64 150] 121)) (by simp)
  have hg2 : ((w.alloc (.cells #[.pointer (some ⟨T, 0, none⟩)] 107)).alloc (.cells #[.pointer (some ⟨9, 107, none⟩), .pointer (some ⟨w.heap.size, 0, none⟩), .int .u64 150] 121)).cell? ⟨0, 0, none⟩ = some (.iface 154 (.agg #[.pointer (some ⟨9, 55, none⟩)])) := by
    rw [World.cell?_alloc_lt _ _ ⟨0, 0, none⟩ (by have := hg.2; first | (simp; done) | (simp; omega)), World.cell?_alloc_lt _ _ ⟨0, 0, none⟩ hg.2]; exact hg.1
  have tO := typeOfF
  have aS := asgnFL
  have q1 := noAsF
  have q2 := noUnF
  have q3 := noUsF
  go_enter Tryz.func47, Tryz.ntmps47
  go_wp2
  refine wp_loop_rounds 1 ?_
  rw [rounds_succ]
  go_wp2
  go_ret
  exact ⟨rfl, rfl⟩

set_option maxHeartbeats 4000000 in
theorem as_unw (m n o : Int) (T : Nat) (w : World) (hg : ErrT w) (ht0 : w.cell? ⟨T, 0, none⟩ = some (.int .i64 o)) (hf0 : w.frozen? ⟨T, 0, none⟩ = false) :
    Calls Tryz.prog 47 #[.iface 106 (.agg #[.int .i64 m, .iface 92 (.agg #[.int .i64 n])]), .iface 94 (.pointer (some ⟨T, 0, none⟩))] w fun ev w' => ev = .returned (.bool true) ∧ w' = (((((w.alloc (.cells #[.pointer (some ⟨T, 0, none⟩)] 94)).alloc (.cells #[.pointer (some ⟨9, 94, none⟩), .pointer (some ⟨w.heap.size, 0, none⟩), .int .u64 150] 121)).alloc (.cells #[.pointer (some ⟨9, 94, none⟩), .pointer (some ⟨w.heap.size, 0, none⟩), .int .u64 150] 121)).alloc (.cells #[.int .i64 m, .iface 92 (.agg #[.int .i64 n])] 106)).alloc (.cells #[.int .i64 n] 92)).setCell ⟨T, 0, none⟩ (.int .i64 n) := by
  have h1 := @run_callFunc_extern Tryz.prog 64 _ (fun args => ReflectliteValue.unpack (args.getD 0 (.tuple #[]))) Tryz.func64 (by kernel_rfl) (by kernel_rfl) (by kernel_rfl) (by kernel_rfl)
  have h2 := @run_callFunc_extern Tryz.prog 65 _ (ReflectliteValue.methodAny (ReflectliteValue.valueError "reflectlite.Value.Type" 0) (fun t _ _ _ => ReflectliteType.toType t)) Tryz.func65 (by kernel_rfl) (by kernel_rfl) (by kernel_rfl) (by kernel_rfl)
  have h3 := @run_callFunc_extern Tryz.prog 66 _ (ReflectliteValue.method (ReflectliteValue.valueError "reflectlite.Value.IsNil" 0) ReflectliteValue.isNil) Tryz.func66 (by kernel_rfl) (by kernel_rfl) (by kernel_rfl) (by kernel_rfl)
  have h4 := @run_callFunc_extern Tryz.prog 199 _ (ReflectliteType.abiMethod fun t => do pure (.int .u8 (← Rtype.kind t))) Tryz.func199 (by kernel_rfl) (by kernel_rfl) (by kernel_rfl) (by kernel_rfl)
  have h5 := @run_callFunc_extern Tryz.prog 212 _ (ReflectliteType.method ReflectliteType.elem) Tryz.func212 (by kernel_rfl) (by kernel_rfl) (by kernel_rfl) (by kernel_rfl)
  have h6 := @run_callFunc_extern Tryz.prog 213 _ (ReflectliteType.relation "Implements" ReflectliteType.implements_) Tryz.func213 (by kernel_rfl) (by kernel_rfl) (by kernel_rfl) (by kernel_rfl)
  have h7 := @run_callFunc_extern Tryz.prog 93 _ ReflectliteType.typeOf Tryz.func93 (by kernel_rfl) (by kernel_rfl) (by kernel_rfl) (by kernel_rfl)
  have h8 := @run_callFunc_extern Tryz.prog 210 _ (ReflectliteType.relation "AssignableTo" ReflectliteType.assignableTo) Tryz.func210 (by kernel_rfl) (by kernel_rfl) (by kernel_rfl) (by kernel_rfl)
  have h9 := @run_callFunc_extern Tryz.prog 94 _ (ReflectliteValue.method (ReflectliteValue.valueError "reflectlite.Value.Elem" 0) ReflectliteValue.elem) Tryz.func94 (by kernel_rfl) (by kernel_rfl) (by kernel_rfl) (by kernel_rfl)
  have h10 := @run_callFunc_extern Tryz.prog 95 _ ReflectliteValue.set Tryz.func95 (by kernel_rfl) (by kernel_rfl) (by kernel_rfl) (by kernel_rfl)
  have mK := methodKind
  have mE := methodElem
  have mI := methodImplements
  have mA := methodAssignableTo
  have valueofpq := valueOfPF
  have typepq := typePF
  have kindpq := kindPF
  have kindeq := kindEF
  have elemtq := elemTF
  have implq := implF
  have n8 := isNilF ⟨w.heap.size, 0, none⟩ ⟨T, 0, none⟩ ((w.alloc (.cells #[.pointer (some ⟨T, 0, none⟩)] 94)).alloc (.cells #[.pointer (some ⟨9, 94, none⟩), .pointer (some ⟨w.heap.size, 0, none⟩), .int .u64 150] 121)) (by simp)
  have hg2 : ((w.alloc (.cells #[.pointer (some ⟨T, 0, none⟩)] 94)).alloc (.cells #[.pointer (some ⟨9, 94, none⟩), .pointer (some ⟨w.heap.size, 0, none⟩), .int .u64 150] 121)).cell? ⟨0, 0, none⟩ = some (.iface 154 (.agg #[.pointer (some ⟨9, 55, none⟩)])) := by
    rw [World.cell?_alloc_lt _ _ ⟨0, 0, none⟩ (by have := hg.2; first | (simp; done) | (simp; omega)), World.cell?_alloc_lt _ _ ⟨0, 0, none⟩ hg.2]; exact hg.1
  have tO := typeOfL
  have tF := typeOfF
  have aS := asgnLF
  have aF := asgnF
  have q1 := noAsL
  have q2 := noUnL
  have mU := methodUn
  have vE := valueOfEF
  have htl : T < w.heap.size := World.block_lt_of_cell? _ _ ht0
  have el := elemVF ⟨w.heap.size, 0, none⟩ ⟨T, 0, none⟩ ((((w.alloc (.cells #[.pointer (some ⟨T, 0, none⟩)] 94)).alloc (.cells #[.pointer (some ⟨9, 94, none⟩), .pointer (some ⟨w.heap.size, 0, none⟩), .int .u64 150] 121)).alloc (.cells #[.pointer (some ⟨9, 94, none⟩), .pointer (some ⟨w.heap.size, 0, none⟩), .int .u64 150] 121)).alloc (.cells #[.int .i64 m, .iface 92 (.agg #[.int .i64 n])] 106)) (by rw [World.cell?_alloc_lt _ _ ⟨w.heap.size, 0, none⟩ (by simp; omega), World.cell?_alloc_lt _ _ ⟨w.heap.size, 0, none⟩ (by simp; omega)]; simp)
  have st := setF ⟨T, 0, none⟩ ⟨w.heap.size + 1 + 1 + 1 + 1, 0, none⟩ n o (((((w.alloc (.cells #[.pointer (some ⟨T, 0, none⟩)] 94)).alloc (.cells #[.pointer (some ⟨9, 94, none⟩), .pointer (some ⟨w.heap.size, 0, none⟩), .int .u64 150] 121)).alloc (.cells #[.pointer (some ⟨9, 94, none⟩), .pointer (some ⟨w.heap.size, 0, none⟩), .int .u64 150] 121)).alloc (.cells #[.int .i64 m, .iface 92 (.agg #[.int .i64 n])] 106)).alloc (.cells #[.int .i64 n] 92)) (by rw [World.cell?_alloc_at _ _ _ _ (by simp)]; rfl) (by rw [World.cell?_alloc_lt _ _ ⟨T, 0, none⟩ (by simp; omega), World.cell?_alloc_lt _ _ ⟨T, 0, none⟩ (by simp; omega), World.cell?_alloc_lt _ _ ⟨T, 0, none⟩ (by simp; omega), World.cell?_alloc_lt _ _ ⟨T, 0, none⟩ (by simp; omega), World.cell?_alloc_lt _ _ ⟨T, 0, none⟩ htl]; exact ht0) (by rw [World.frozen?_alloc_old _ _ ⟨T, 0, none⟩ (by simp; omega), World.frozen?_alloc_old _ _ ⟨T, 0, none⟩ (by simp; omega), World.frozen?_alloc_old _ _ ⟨T, 0, none⟩ (by simp; omega), World.frozen?_alloc_old _ _ ⟨T, 0, none⟩ (by simp; omega), World.frozen?_alloc_old _ _ ⟨T, 0, none⟩ (Nat.ne_of_lt htl)]; exact hf0)
  go_enter Tryz.func47, Tryz.ntmps47
  go_wp2
  refine wp_loop_rounds 2 ?_
  rw [rounds_succ]
  go_wp2_with (first | (go_at_call 205; refine (unwrap_any _ _ _ _).mono ?_; rintro e w' ⟨rfl, rfl⟩))
  rw [rounds_succ]
  go_wp2
  go_ret
  exact ⟨rfl, rfl⟩

end Go.Proofs.YticmebamclacaaaGreatDoor

namespace Go.Proofs.YticmebamclacaaaGreatDoor
open Go.RowKit Go.Extern.Stop Go.Stop Go.Extern
set_option linter.unusedVariables false

theorem bgX {n : Nat} {W0 W w1 : World} (h0 : Below n W0 W) (hn : n ≤ W.heap.size) (hb : Below W.heap.size W w1) : Below n W0 w1 ∧ n ≤ w1.heap.size := ⟨h0.trans (hb.mono hn), Nat.le_trans hn hb.size⟩
/-- The error that wraps a number; none for 0. -/
def errV (e : Int) : Value := if e = 0 then .nilIface else .iface 92 (.agg #[.int .i64 e])
theorem errV_0 : errV 0 = .nilIface := rfl
theorem errV_ne {e : Int} (h : ¬ e = 0) : errV e = .iface 92 (.agg #[.int .i64 e]) := if_neg h
/-- An error met in a line. -/
abbrev lineV (m n : Int) : Value := .iface 106 (.agg #[.int .i64 m, .iface 92 (.agg #[.int .i64 n])])

theorem failed_any (e : Int) (w : World) :
    Calls Tryz.prog 68 #[.int .i64 e] w fun r w' => r = .returned (errV e) ∧ w' = w := by
  by_cases h : e = 0
  · subst h
    rw [errV_0]
    go_enter Tryz.func68, Tryz.ntmps68
    go_wp2
    go_ret
    exact ⟨rfl, rfl⟩
  · have h' : (e == 0) = false := by simpa using h
    rw [errV_ne h]
    clear h
    go_enter Tryz.func68, Tryz.ntmps68
    go_wp2
    go_ret
    exact ⟨rfl, rfl⟩

set_option maxHeartbeats 1000000 in
theorem tnumber_any (e : Int) (w : World) (hg : ErrT w) :
    Calls Tryz.prog 24 #[errV e] w fun r w' => r = .returned (.int .i64 e) ∧ Below w.heap.size w w' := by
  by_cases h : e = 0
  · subst h
    rw [errV_0]
    go_enter Tryz.func24, Tryz.ntmps24
    go_wp2_with (go_at_call 47; refine (as_nil _ _).mono ?_; rintro e w' ⟨rfl, rfl⟩)
    go_ret
    exact ⟨rfl, by go_grown⟩
  · rw [errV_ne h]
    have HG := hg
    clear h
    go_enter Tryz.func24, Tryz.ntmps24
    go_wp2_with (go_at_call 47; refine (as_hitF e 0 w.heap.size _ (HG.below (by go_grown)) (by simp) (by simp)).mono ?_; rintro e w' ⟨rfl, rfl⟩)
    go_ret
    exact ⟨rfl, by go_grown⟩

set_option maxHeartbeats 1000000 in
theorem tnumber_line (m n : Int) (w : World) (hg : ErrT w) :
    Calls Tryz.prog 24 #[lineV m n] w fun r w' => r = .returned (.int .i64 n) ∧ Below w.heap.size w w' := by
  have HG := hg
  go_enter Tryz.func24, Tryz.ntmps24
  go_wp2_with (go_at_call 47; refine (as_unw m n 0 w.heap.size _ (HG.below (by go_grown)) (by simp) (by simp)).mono ?_; rintro e w' ⟨rfl, rfl⟩)
  go_ret
  exact ⟨rfl, by go_grown⟩

end Go.Proofs.YticmebamclacaaaGreatDoor
