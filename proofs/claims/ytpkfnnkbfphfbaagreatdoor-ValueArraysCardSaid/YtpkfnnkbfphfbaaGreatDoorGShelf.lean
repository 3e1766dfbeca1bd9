/-
  DERIVED: THE SHELF's CONTRACTS AT THIS DUMP, IN PLAIN WORDS (tools/lay-plain.mjs out of 'TryzShelf.lean', which tools/lay-shelf.mjs wrote): THE SAME DECLARATIONS UNDER THE SAME NAMES: 'import', 'namespace', 'open', 'def', 'theorem' AND NOTHING ELSE: no command of the shelf's: FOR A HAND-IN. Each laying: the table of numbers ('.._ren') and one theorem, a field a fact of the dump's own or the kernel's comparison; each contract: ONE APPLICATION.
-/
import Derived.Shelf.Strings.Builder1
import Derived.Shelf.Small.Bits
import Derived.Shelf.Strings.BuilderF
import Derived.Shelf.Strings.BuilderK
import Derived.Shelf.Strconv.Itoa0
import Derived.Shelf.Strconv.Itoa1
import Derived.Shelf.LaysM
import Derived.Shelf.Strconv.Itoa2
import Derived.Shelf.Strconv.Itoa3
import Derived.Shelf.Strconv.Itoa4
import Derived.Shelf.Strconv.ParseIntEmpty
import Derived.Shelf.Strconv.Clone
import Derived.Shelf.Strconv.SyntaxError
import Derived.Shelf.LaysC
import Derived.Shelf.Strconv.ToError
import Derived.Shelf.Strconv.Lower
import Derived.Shelf.Strconv.ParseUint10
import Derived.Shelf.Strconv.ParseUint10Empty
import Derived.Shelf.Strconv.ParseUint10Any
import Derived.Shelf.Strconv.ParseInt10
import Derived.Shelf.Strconv.RangeError
import Derived.Shelf.Strconv.ToErrorRange
import Derived.Shelf.Strconv.ParseUintEmpty
import Derived.Shelf.Strconv.ParseUint10b64
import Derived.Shelf.Strconv.ParseUint10b32
import Derived.Shelf.Strconv.ParseUint10b16
import Derived.Shelf.Strconv.ParseUint10b8
import Derived.Shelf.Strconv.ParseUint10At
import Derived.Shelf.Strconv.ParseInt10At64
import Derived.Shelf.Strconv.ParseInt10At32
import Derived.Shelf.Strconv.ParseInt10At16
import Derived.Shelf.Strconv.ParseInt10At8
import Derived.Shelf.Strconv.ParseInt10All
import Derived.Shelf.Strconv.ParseIntPublic10
import Derived.Shelf.Strconv.ErrVarParseInt
import Derived.Ground.MpProg
import Derived.Shelf.Pu.ParseUintPublic10
import Derived.Shelf.Pu.ErrVarParseUint
import Derived.Shelf.Strings.Search1
import Derived.Shelf.Strings.Search2
import Derived.Shelf.Strings.Cut
import Derived.Shelf.Strings.Shaped
import Derived.Shelf.Strings.Prefix
import Derived.Shelf.Bits.Mul64
import Derived.Shelf.Strings.BuilderCap
import Derived.Shelf.Slices.Equal
import Derived.Ground.Names2Prog
import Derived.Shelf.Slices.ReverseS
import Derived.Shelf.Slices.Clone
import Derived.Shelf.Slices.Delete
import Derived.Shelf.Slices.Cells
import Derived.Shelf.Slices.Empties
import Derived.Shelf.Slices.Empties2
import Derived.Ground.SlgnProg
import Derived.Shelf.SlicesE.Clone
import Derived.Test.YtpkfnnkbfphfbaaGreatDoorProg
namespace Go.Proofs
open Go.Shelf
def Tryz.lays169_ren:Go.Shelf.Ren:=⟨fun | 169=>80 | n=>n,fun | 70=>118 | 9=>9 | 0=>0 | 72=>120 | 37=>99 | 127=>158 | 3=>3 | 5=>5 | n=>n,fun | n=>n⟩
theorem Tryz.lays169:Go.Proofs.Lays.n169 Tryz.prog Tryz.lays169_ren:={
  mixed:=by kernel_rfl
  f169:=Tryz.func80.trans (congrArg some (by kernel_rfl))
  t0:=Tryz.underlying0
  a0:=Tryz.isAgg0
  z0:=Tryz.sizeOf0
  v0:=Tryz.zeroValue0
  t3:=Tryz.underlying3
  a3:=Tryz.isAgg3
  z3:=Tryz.sizeOf3
  v3:=Tryz.zeroValue3
  t9:=Tryz.underlying9
  a9:=Tryz.isAgg9
  z9:=Tryz.sizeOf9
  v9:=Tryz.zeroValue9
  t37:=Tryz.underlying99
  a37:=Tryz.isAgg99
  z37:=Tryz.sizeOf99
  v37:=Tryz.zeroValue99
  t70:=Tryz.underlying118
  a70:=Tryz.isAgg118
  z70:=Tryz.sizeOf118
  v70:=Tryz.zeroValue118
  t72:=Tryz.underlying120
  a72:=Tryz.isAgg120
  z72:=Tryz.sizeOf120
  v72:=Tryz.zeroValue120
  t127:=Tryz.underlying158
  a127:=Tryz.isAgg158
  z127:=Tryz.sizeOf158
  v127:=Tryz.zeroValue158 }
theorem Tryz.Builder_Extra_169:Builder.Extra Tryz.prog Tryz.lays169_ren:={
  sizeBuilder:=by kernel_rfl
  liesBuilder:=by kernel_rfl
  t5:=Tryz.underlying5
  a5:=Tryz.isAgg5
  z5:=Tryz.sizeOf5
  v5:=Tryz.zeroValue5
  infoByte:=by kernel_rfl
  cellsByte:=by kernel_rfl
  sizeByte:=by kernel_rfl
  neB5:=by decide }
open Go.RowKit in
theorem Tryz.Builder_String_any (B b:Nat) (l:List UInt8) (w:World) (h:Lib.IsBuilder 120 5 B b (Lib.byteCells l) w) (hBw:B≤w.heap.size):
    Calls Tryz.prog 80 #[.pointer (some ⟨b,0,none⟩)] w fun e w'=>e=.returned (.string ⟨l.toArray⟩)∧Below B w w':=Any.Builder_String_any Tryz.lays169 Tryz.Builder_Extra_169 B b l w h hBw
def Tryz.lays133_ren:Go.Shelf.Ren:=⟨fun | 133=>229 | 128=>241 | n=>n,fun | 51=>207 | 3=>3 | 4=>4 | 46=>51 | 5=>5 | 9=>9 | n=>n,fun | n=>n⟩
theorem Tryz.lays133:Go.Proofs.Lays.n133 Tryz.prog Tryz.lays133_ren:={
  mixed:=by kernel_rfl
  f128:=Tryz.func241.trans (congrArg some (by kernel_rfl))
  f133:=Tryz.func229.trans (congrArg some (by kernel_rfl))
  t3:=Tryz.underlying3
  a3:=Tryz.isAgg3
  z3:=Tryz.sizeOf3
  v3:=Tryz.zeroValue3
  t4:=Tryz.underlying4
  a4:=Tryz.isAgg4
  z4:=Tryz.sizeOf4
  v4:=Tryz.zeroValue4
  t5:=Tryz.underlying5
  a5:=Tryz.isAgg5
  z5:=Tryz.sizeOf5
  v5:=Tryz.zeroValue5
  t9:=Tryz.underlying9
  a9:=Tryz.isAgg9
  z9:=Tryz.sizeOf9
  v9:=Tryz.zeroValue9
  t46:=Tryz.underlying51
  a46:=Tryz.isAgg51
  z46:=Tryz.sizeOf51
  v46:=Tryz.zeroValue51
  t51:=Tryz.underlying207
  a51:=Tryz.isAgg207
  z51:=Tryz.sizeOf207
  v51:=Tryz.zeroValue207 }
theorem Tryz.bits_LeadingZeros32 (x:Int) (w:World) (h0:0≤x) (h1:x≤4294967295):
    Calls Tryz.prog 229 #[.int .u32 x] w fun e w'=>e=.returned (.int .i64 (32-(Lib.bitLen x.toNat:Int)))∧w'=w:=Any.bits_LeadingZeros32 Tryz.lays133 x w h0 h1
open Go.RowKit Go.Sort Go.Lib in
def Tryz.laysM171_ren:Go.Shelf.Ren:=⟨fun | 171=>189 | 243=>218 | 246=>217 | 283=>233 | 284=>234 | 285=>235 | 286=>236 | 129=>243 | 317=>242 | 318=>244 | 319=>245 | 320=>246 | 337=>247 | 338=>248 | n=>n,fun | 3=>3 | 9=>9 | 2=>2 | 4=>4 | 171=>235 | 0=>0 | 53=>200 | 37=>99 | 5=>5 | 173=>238 | 212=>245 | 51=>207 | 20=>20 | 213=>246 | 46=>51 | 232=>251 | 233=>252 | n=>n,fun | 17=>3 | 18=>4 | 19=>5 | n=>n⟩
theorem Tryz.laysM171:Go.Proofs.LaysM.n171 Tryz.prog Tryz.laysM171_ren:={
  mixed:=by kernel_rfl
  f129:=Tryz.func243.trans (congrArg some (by kernel_rfl))
  f171:=Tryz.func189.trans (congrArg some (by kernel_rfl))
  f243:=Tryz.func218.trans (congrArg some (by kernel_rfl))
  f246:=Tryz.func217.trans (congrArg some (by kernel_rfl))
  f283:=Tryz.func233.trans (congrArg some (by kernel_rfl))
  f284:=Tryz.func234.trans (congrArg some (by kernel_rfl))
  f285:=Tryz.func235.trans (congrArg some (by kernel_rfl))
  f286:=Tryz.func236.trans (congrArg some (by kernel_rfl))
  f317:=Tryz.func242.trans (congrArg some (by kernel_rfl))
  f318:=Tryz.func244.trans (congrArg some (by kernel_rfl))
  f319:=Tryz.func245.trans (congrArg some (by kernel_rfl))
  f320:=Tryz.func246.trans (congrArg some (by kernel_rfl))
  f337:=Tryz.func247.trans (congrArg some (by kernel_rfl))
  f338:=Tryz.func248.trans (congrArg some (by kernel_rfl))
  t0:=Tryz.underlying0
  a0:=Tryz.isAgg0
  z0:=Tryz.sizeOf0
  v0:=Tryz.zeroValue0
  t2:=Tryz.underlying2
  a2:=Tryz.isAgg2
  z2:=Tryz.sizeOf2
  v2:=Tryz.zeroValue2
  t3:=Tryz.underlying3
  a3:=Tryz.isAgg3
  z3:=Tryz.sizeOf3
  v3:=Tryz.zeroValue3
  t4:=Tryz.underlying4
  a4:=Tryz.isAgg4
  z4:=Tryz.sizeOf4
  v4:=Tryz.zeroValue4
  t5:=Tryz.underlying5
  a5:=Tryz.isAgg5
  z5:=Tryz.sizeOf5
  v5:=Tryz.zeroValue5
  t9:=Tryz.underlying9
  a9:=Tryz.isAgg9
  z9:=Tryz.sizeOf9
  v9:=Tryz.zeroValue9
  t20:=Tryz.underlying20
  a20:=Tryz.isAgg20
  z20:=Tryz.sizeOf20
  v20:=Tryz.zeroValue20
  t37:=Tryz.underlying99
  a37:=Tryz.isAgg99
  z37:=Tryz.sizeOf99
  v37:=Tryz.zeroValue99
  t46:=Tryz.underlying51
  a46:=Tryz.isAgg51
  z46:=Tryz.sizeOf51
  v46:=Tryz.zeroValue51
  t51:=Tryz.underlying207
  a51:=Tryz.isAgg207
  z51:=Tryz.sizeOf207
  v51:=Tryz.zeroValue207
  t53:=Tryz.underlying200
  a53:=Tryz.isAgg200
  z53:=Tryz.sizeOf200
  v53:=Tryz.zeroValue200
  t171:=Tryz.underlying235
  a171:=Tryz.isAgg235
  z171:=Tryz.sizeOf235
  v171:=Tryz.zeroValue235
  t173:=Tryz.underlying238
  a173:=Tryz.isAgg238
  z173:=Tryz.sizeOf238
  v173:=Tryz.zeroValue238
  t212:=Tryz.underlying245
  a212:=Tryz.isAgg245
  z212:=Tryz.sizeOf245
  v212:=Tryz.zeroValue245
  t213:=Tryz.underlying246
  a213:=Tryz.isAgg246
  z213:=Tryz.sizeOf246
  t232:=Tryz.underlying251
  a232:=Tryz.isAgg251
  z232:=Tryz.sizeOf251
  v232:=Tryz.zeroValue251
  t233:=Tryz.underlying252
  a233:=Tryz.isAgg252
  z233:=Tryz.sizeOf252
  v233:=Tryz.zeroValue252
  g17:=by kernel_rfl
  g18:=by kernel_rfl
  g19:=by kernel_rfl
  i0:=by kernel_rfl
  i2:=by kernel_rfl
  i3:=by kernel_rfl
  i4:=by kernel_rfl
  i5:=by kernel_rfl
  i9:=by kernel_rfl
  i20:=by kernel_rfl
  i37:=by kernel_rfl
  i46:=by kernel_rfl
  i51:=by kernel_rfl
  i53:=by kernel_rfl
  i171:=by kernel_rfl
  i173:=by kernel_rfl
  i212:=by kernel_rfl
  i232:=by kernel_rfl
  i233:=by kernel_rfl
  m17:=by kernel_rfl
  m18:=by kernel_rfl
  m19:=by kernel_rfl }
open Go.RowKit Go.Sort Go.Lib in
theorem Tryz.strconv_Itoa (n:Int) (h0: -9223372036854775808≤n) (h1:n≤9223372036854775807) (w:World) (htab:Lib.TabIs Tryz.prog w "internal/strconv.uint64pow10" .u64 Lib.pow10Tab):
    Calls Tryz.prog 189 #[.int .i64 n] w fun e w'=>e=.returned (.string ⟨(Lib.itoa n).toArray⟩)∧∃k os,w'=grow (w.drewN k) os:=Any.strconv_Itoa Tryz.laysM171 n h0 h1 w htab
open Go.RowKit Go.Sort Go.Lib in
def Tryz.laysM173_ren:Go.Shelf.Ren:=⟨fun | 173=>187 | 246=>217 | 283=>233 | 284=>234 | 285=>235 | 286=>236 | 129=>243 | 317=>242 | 318=>244 | 319=>245 | 320=>246 | 337=>247 | 338=>248 | n=>n,fun | 2=>2 | 3=>3 | 9=>9 | 4=>4 | 171=>235 | 0=>0 | 53=>200 | 37=>99 | 5=>5 | 173=>238 | 212=>245 | 51=>207 | 20=>20 | 213=>246 | 46=>51 | 232=>251 | 233=>252 | n=>n,fun | 17=>3 | 18=>4 | 19=>5 | n=>n⟩
theorem Tryz.laysM173:Go.Proofs.LaysM.n173 Tryz.prog Tryz.laysM173_ren:={
  mixed:=by kernel_rfl
  f129:=Tryz.func243.trans (congrArg some (by kernel_rfl))
  f173:=Tryz.func187.trans (congrArg some (by kernel_rfl))
  f246:=Tryz.func217.trans (congrArg some (by kernel_rfl))
  f283:=Tryz.func233.trans (congrArg some (by kernel_rfl))
  f284:=Tryz.func234.trans (congrArg some (by kernel_rfl))
  f285:=Tryz.func235.trans (congrArg some (by kernel_rfl))
  f286:=Tryz.func236.trans (congrArg some (by kernel_rfl))
  f317:=Tryz.func242.trans (congrArg some (by kernel_rfl))
  f318:=Tryz.func244.trans (congrArg some (by kernel_rfl))
  f319:=Tryz.func245.trans (congrArg some (by kernel_rfl))
  f320:=Tryz.func246.trans (congrArg some (by kernel_rfl))
  f337:=Tryz.func247.trans (congrArg some (by kernel_rfl))
  f338:=Tryz.func248.trans (congrArg some (by kernel_rfl))
  t0:=Tryz.underlying0
  a0:=Tryz.isAgg0
  z0:=Tryz.sizeOf0
  v0:=Tryz.zeroValue0
  t2:=Tryz.underlying2
  a2:=Tryz.isAgg2
  z2:=Tryz.sizeOf2
  v2:=Tryz.zeroValue2
  t3:=Tryz.underlying3
  a3:=Tryz.isAgg3
  z3:=Tryz.sizeOf3
  v3:=Tryz.zeroValue3
  t4:=Tryz.underlying4
  a4:=Tryz.isAgg4
  z4:=Tryz.sizeOf4
  v4:=Tryz.zeroValue4
  t5:=Tryz.underlying5
  a5:=Tryz.isAgg5
  z5:=Tryz.sizeOf5
  v5:=Tryz.zeroValue5
  t9:=Tryz.underlying9
  a9:=Tryz.isAgg9
  z9:=Tryz.sizeOf9
  v9:=Tryz.zeroValue9
  t20:=Tryz.underlying20
  a20:=Tryz.isAgg20
  z20:=Tryz.sizeOf20
  v20:=Tryz.zeroValue20
  t37:=Tryz.underlying99
  a37:=Tryz.isAgg99
  z37:=Tryz.sizeOf99
  v37:=Tryz.zeroValue99
  t46:=Tryz.underlying51
  a46:=Tryz.isAgg51
  z46:=Tryz.sizeOf51
  v46:=Tryz.zeroValue51
  t51:=Tryz.underlying207
  a51:=Tryz.isAgg207
  z51:=Tryz.sizeOf207
  v51:=Tryz.zeroValue207
  t53:=Tryz.underlying200
  a53:=Tryz.isAgg200
  z53:=Tryz.sizeOf200
  v53:=Tryz.zeroValue200
  t171:=Tryz.underlying235
  a171:=Tryz.isAgg235
  z171:=Tryz.sizeOf235
  v171:=Tryz.zeroValue235
  t173:=Tryz.underlying238
  a173:=Tryz.isAgg238
  z173:=Tryz.sizeOf238
  v173:=Tryz.zeroValue238
  t212:=Tryz.underlying245
  a212:=Tryz.isAgg245
  z212:=Tryz.sizeOf245
  v212:=Tryz.zeroValue245
  t213:=Tryz.underlying246
  a213:=Tryz.isAgg246
  z213:=Tryz.sizeOf246
  t232:=Tryz.underlying251
  a232:=Tryz.isAgg251
  z232:=Tryz.sizeOf251
  v232:=Tryz.zeroValue251
  t233:=Tryz.underlying252
  a233:=Tryz.isAgg252
  z233:=Tryz.sizeOf252
  v233:=Tryz.zeroValue252
  g17:=by kernel_rfl
  g18:=by kernel_rfl
  g19:=by kernel_rfl
  i0:=by kernel_rfl
  i2:=by kernel_rfl
  i3:=by kernel_rfl
  i4:=by kernel_rfl
  i5:=by kernel_rfl
  i9:=by kernel_rfl
  i20:=by kernel_rfl
  i37:=by kernel_rfl
  i46:=by kernel_rfl
  i51:=by kernel_rfl
  i53:=by kernel_rfl
  i171:=by kernel_rfl
  i173:=by kernel_rfl
  i212:=by kernel_rfl
  i232:=by kernel_rfl
  i233:=by kernel_rfl
  m17:=by kernel_rfl
  m18:=by kernel_rfl
  m19:=by kernel_rfl }
open Go.RowKit Go.Sort Go.Lib in
theorem Tryz.strconv_FormatInt_10 (n:Int) (h0: -9223372036854775808≤n) (h1:n≤9223372036854775807) (w:World) (htab:Lib.TabIs Tryz.prog w "internal/strconv.uint64pow10" .u64 Lib.pow10Tab):
    Calls Tryz.prog 187 #[.int .i64 n,.int .i64 10] w fun e w'=>e=.returned (.string ⟨(Lib.itoa n).toArray⟩)∧∃k os,w'=grow (w.drewN k) os:=Any.strconv_FormatInt_10 Tryz.laysM173 n h0 h1 w htab
open Go.RowKit in
def Tryz.laysC174_ren:Go.Shelf.Ren:=⟨fun | 174=>173 | 247=>210 | 245=>211 | 287=>224 | 279=>225 | 280=>226 | 281=>227 | 282=>228 | 321=>237 | 322=>238 | 316=>239 | 171=>189 | 205=>240 | 243=>218 | 246=>217 | 283=>233 | 284=>234 | 285=>235 | 286=>236 | 129=>243 | 317=>242 | 318=>244 | 319=>245 | 320=>246 | 337=>247 | 338=>248 | n=>n,fun | 9=>9 | 3=>3 | 2=>2 | 75=>153 | 85=>190 | 4=>4 | 167=>228 | 5=>5 | 53=>200 | 175=>221 | 46=>51 | 168=>229 | 37=>99 | 0=>0 | 210=>242 | 21=>21 | 127=>158 | 145=>250 | 143=>248 | 171=>235 | 173=>238 | 212=>245 | 51=>207 | 20=>20 | 213=>246 | 232=>251 | 233=>252 | 80=>37 | n=>n,fun | 15=>1 | 16=>2 | 17=>3 | 18=>4 | 19=>5 | n=>n⟩
theorem Tryz.laysC174:Go.Proofs.LaysC.n174 Tryz.prog Tryz.laysC174_ren:={
  mixed:=by kernel_rfl
  f129:=Tryz.func243.trans (congrArg some (by kernel_rfl))
  f171:=Tryz.func189.trans (congrArg some (by kernel_rfl))
  f174:=Tryz.func173.trans (congrArg some (by kernel_rfl))
  f205:=Tryz.func240.trans (congrArg some (by kernel_rfl))
  f243:=Tryz.func218.trans (congrArg some (by kernel_rfl))
  f245:=Tryz.func211.trans (congrArg some (by kernel_rfl))
  f246:=Tryz.func217.trans (congrArg some (by kernel_rfl))
  f247:=Tryz.func210.trans (congrArg some (by kernel_rfl))
  f279:=Tryz.func225.trans (congrArg some (by kernel_rfl))
  f280:=Tryz.func226.trans (congrArg some (by kernel_rfl))
  f281:=Tryz.func227.trans (congrArg some (by kernel_rfl))
  f282:=Tryz.func228.trans (congrArg some (by kernel_rfl))
  f283:=Tryz.func233.trans (congrArg some (by kernel_rfl))
  f284:=Tryz.func234.trans (congrArg some (by kernel_rfl))
  f285:=Tryz.func235.trans (congrArg some (by kernel_rfl))
  f286:=Tryz.func236.trans (congrArg some (by kernel_rfl))
  f287:=Tryz.func224.trans (congrArg some (by kernel_rfl))
  f316:=Tryz.func239.trans (congrArg some (by kernel_rfl))
  f317:=Tryz.func242.trans (congrArg some (by kernel_rfl))
  f318:=Tryz.func244.trans (congrArg some (by kernel_rfl))
  f319:=Tryz.func245.trans (congrArg some (by kernel_rfl))
  f320:=Tryz.func246.trans (congrArg some (by kernel_rfl))
  f321:=Tryz.func237.trans (congrArg some (by kernel_rfl))
  f322:=Tryz.func238.trans (congrArg some (by kernel_rfl))
  f337:=Tryz.func247.trans (congrArg some (by kernel_rfl))
  f338:=Tryz.func248.trans (congrArg some (by kernel_rfl))
  t0:=Tryz.underlying0
  a0:=Tryz.isAgg0
  z0:=Tryz.sizeOf0
  v0:=Tryz.zeroValue0
  t2:=Tryz.underlying2
  a2:=Tryz.isAgg2
  z2:=Tryz.sizeOf2
  v2:=Tryz.zeroValue2
  t3:=Tryz.underlying3
  a3:=Tryz.isAgg3
  z3:=Tryz.sizeOf3
  v3:=Tryz.zeroValue3
  t4:=Tryz.underlying4
  a4:=Tryz.isAgg4
  z4:=Tryz.sizeOf4
  v4:=Tryz.zeroValue4
  t5:=Tryz.underlying5
  a5:=Tryz.isAgg5
  z5:=Tryz.sizeOf5
  v5:=Tryz.zeroValue5
  t9:=Tryz.underlying9
  a9:=Tryz.isAgg9
  z9:=Tryz.sizeOf9
  v9:=Tryz.zeroValue9
  t20:=Tryz.underlying20
  a20:=Tryz.isAgg20
  z20:=Tryz.sizeOf20
  v20:=Tryz.zeroValue20
  t21:=Tryz.underlying21
  a21:=Tryz.isAgg21
  z21:=Tryz.sizeOf21
  v21:=Tryz.zeroValue21
  t37:=Tryz.underlying99
  a37:=Tryz.isAgg99
  z37:=Tryz.sizeOf99
  v37:=Tryz.zeroValue99
  t46:=Tryz.underlying51
  a46:=Tryz.isAgg51
  z46:=Tryz.sizeOf51
  v46:=Tryz.zeroValue51
  t51:=Tryz.underlying207
  a51:=Tryz.isAgg207
  z51:=Tryz.sizeOf207
  v51:=Tryz.zeroValue207
  t53:=Tryz.underlying200
  a53:=Tryz.isAgg200
  z53:=Tryz.sizeOf200
  v53:=Tryz.zeroValue200
  t75:=Tryz.underlying153
  a75:=Tryz.isAgg153
  z75:=Tryz.sizeOf153
  v75:=Tryz.zeroValue153
  t85:=Tryz.underlying190
  a85:=Tryz.isAgg190
  z85:=Tryz.sizeOf190
  v85:=Tryz.zeroValue190
  t127:=Tryz.underlying158
  a127:=Tryz.isAgg158
  z127:=Tryz.sizeOf158
  v127:=Tryz.zeroValue158
  t143:=Tryz.underlying248
  a143:=Tryz.isAgg248
  z143:=Tryz.sizeOf248
  v143:=Tryz.zeroValue248
  t145:=Tryz.underlying250
  a145:=Tryz.isAgg250
  z145:=Tryz.sizeOf250
  v145:=Tryz.zeroValue250
  t167:=Tryz.underlying228
  a167:=Tryz.isAgg228
  z167:=Tryz.sizeOf228
  v167:=Tryz.zeroValue228
  t168:=Tryz.underlying229
  a168:=Tryz.isAgg229
  z168:=Tryz.sizeOf229
  v168:=Tryz.zeroValue229
  t171:=Tryz.underlying235
  a171:=Tryz.isAgg235
  z171:=Tryz.sizeOf235
  v171:=Tryz.zeroValue235
  t173:=Tryz.underlying238
  a173:=Tryz.isAgg238
  z173:=Tryz.sizeOf238
  v173:=Tryz.zeroValue238
  t175:=Tryz.underlying221
  a175:=Tryz.isAgg221
  z175:=Tryz.sizeOf221
  v175:=Tryz.zeroValue221
  t210:=Tryz.underlying242
  a210:=Tryz.isAgg242
  z210:=Tryz.sizeOf242
  v210:=Tryz.zeroValue242
  t212:=Tryz.underlying245
  a212:=Tryz.isAgg245
  z212:=Tryz.sizeOf245
  v212:=Tryz.zeroValue245
  t213:=Tryz.underlying246
  a213:=Tryz.isAgg246
  z213:=Tryz.sizeOf246
  t232:=Tryz.underlying251
  a232:=Tryz.isAgg251
  z232:=Tryz.sizeOf251
  v232:=Tryz.zeroValue251
  t233:=Tryz.underlying252
  a233:=Tryz.isAgg252
  z233:=Tryz.sizeOf252
  v233:=Tryz.zeroValue252
  g15:=by kernel_rfl
  g16:=by kernel_rfl
  g17:=by kernel_rfl
  g18:=by kernel_rfl
  g19:=by kernel_rfl
  t80:=Tryz.underlying37
  a80:=Tryz.isAgg37
  z80:=Tryz.sizeOf37
  v80:=Tryz.zeroValue37
  i0:=by kernel_rfl
  i2:=by kernel_rfl
  i3:=by kernel_rfl
  i4:=by kernel_rfl
  i5:=by kernel_rfl
  i9:=by kernel_rfl
  i20:=by kernel_rfl
  i21:=by kernel_rfl
  i37:=by kernel_rfl
  i46:=by kernel_rfl
  i51:=by kernel_rfl
  i53:=by kernel_rfl
  i75:=by kernel_rfl
  i80:=by kernel_rfl
  i85:=by kernel_rfl
  i127:=by kernel_rfl
  i143:=by kernel_rfl
  i145:=by kernel_rfl
  i167:=by kernel_rfl
  i168:=by kernel_rfl
  i171:=by kernel_rfl
  i173:=by kernel_rfl
  i175:=by kernel_rfl
  i210:=by kernel_rfl
  i212:=by kernel_rfl
  i232:=by kernel_rfl
  i233:=by kernel_rfl
  m15:=by kernel_rfl
  m16:=by kernel_rfl
  m17:=by kernel_rfl
  m18:=by kernel_rfl
  m19:=by kernel_rfl
  c0:=by kernel_rfl
  c2:=by kernel_rfl
  c3:=by kernel_rfl
  c4:=by kernel_rfl
  c5:=by kernel_rfl
  c9:=by kernel_rfl
  c20:=by kernel_rfl
  c21:=by kernel_rfl
  c37:=by kernel_rfl
  c46:=by kernel_rfl
  c51:=by kernel_rfl
  c53:=by kernel_rfl
  c75:=by kernel_rfl
  c80:=by kernel_rfl
  c85:=by kernel_rfl
  c127:=by kernel_rfl
  c143:=by kernel_rfl
  c145:=by kernel_rfl
  c167:=by kernel_rfl
  c168:=by kernel_rfl
  c171:=by kernel_rfl
  c173:=by kernel_rfl
  c175:=by kernel_rfl
  c210:=by kernel_rfl
  c212:=by kernel_rfl
  c213:=by kernel_rfl
  c232:=by kernel_rfl
  c233:=by kernel_rfl }
open Go.RowKit in
theorem Tryz.strconv_ParseInt_10_at64_ok (s:ByteArray) (hmax:s.size≤9223372036854775806) (v:Int) (h:Lib.parseIntB 64 s.data.toList=.ok v) (w:World):
    Calls Tryz.prog 173 #[.string s,.int .i64 10,.int .i64 64] w fun e w'=>e=.returned (.tuple #[.int .i64 v,.nilIface])∧(w'=w∨∃t,w'=Lib.bytesWorld w 5 t):=Any.strconv_ParseInt_10_at64_ok Tryz.laysC174 s hmax v h w
open Go.RowKit in
def Tryz.laysPu14_ren:Go.Shelf.Ren:=⟨fun | 14=>212 | 16=>224 | 17=>211 | 19=>237 | 20=>238 | 21=>225 | 22=>226 | 23=>227 | 24=>228 | 25=>239 | 27=>189 | 26=>240 | 28=>218 | 29=>217 | 30=>233 | 31=>234 | 32=>235 | 33=>236 | 35=>243 | 34=>242 | 36=>244 | 37=>245 | 38=>246 | 39=>247 | 40=>248 | n=>n,fun | 9=>9 | 3=>3 | 22=>200 | 24=>153 | 25=>221 | 4=>4 | 34=>228 | 5=>5 | 36=>51 | 37=>99 | 0=>0 | 39=>229 | 21=>21 | 44=>242 | 47=>158 | 50=>250 | 48=>248 | 2=>2 | 52=>235 | 55=>238 | 59=>245 | 60=>207 | 20=>20 | 61=>246 | 65=>251 | 66=>252 | 67=>37 | n=>n,fun | 0=>1 | 1=>2 | 2=>3 | 3=>4 | 4=>5 | n=>n⟩
theorem Tryz.laysPu14:Go.Proofs.LaysPu.n14 Tryz.prog Tryz.laysPu14_ren:={
  mixed:=by kernel_rfl
  f14:=Tryz.func212.trans (congrArg some (by kernel_rfl))
  f16:=Tryz.func224.trans (congrArg some (by kernel_rfl))
  f17:=Tryz.func211.trans (congrArg some (by kernel_rfl))
  f19:=Tryz.func237.trans (congrArg some (by kernel_rfl))
  f20:=Tryz.func238.trans (congrArg some (by kernel_rfl))
  f21:=Tryz.func225.trans (congrArg some (by kernel_rfl))
  f22:=Tryz.func226.trans (congrArg some (by kernel_rfl))
  f23:=Tryz.func227.trans (congrArg some (by kernel_rfl))
  f24:=Tryz.func228.trans (congrArg some (by kernel_rfl))
  f25:=Tryz.func239.trans (congrArg some (by kernel_rfl))
  f26:=Tryz.func240.trans (congrArg some (by kernel_rfl))
  f27:=Tryz.func189.trans (congrArg some (by kernel_rfl))
  f28:=Tryz.func218.trans (congrArg some (by kernel_rfl))
  f29:=Tryz.func217.trans (congrArg some (by kernel_rfl))
  f30:=Tryz.func233.trans (congrArg some (by kernel_rfl))
  f31:=Tryz.func234.trans (congrArg some (by kernel_rfl))
  f32:=Tryz.func235.trans (congrArg some (by kernel_rfl))
  f33:=Tryz.func236.trans (congrArg some (by kernel_rfl))
  f34:=Tryz.func242.trans (congrArg some (by kernel_rfl))
  f35:=Tryz.func243.trans (congrArg some (by kernel_rfl))
  f36:=Tryz.func244.trans (congrArg some (by kernel_rfl))
  f37:=Tryz.func245.trans (congrArg some (by kernel_rfl))
  f38:=Tryz.func246.trans (congrArg some (by kernel_rfl))
  f39:=Tryz.func247.trans (congrArg some (by kernel_rfl))
  f40:=Tryz.func248.trans (congrArg some (by kernel_rfl))
  t0:=Tryz.underlying0
  a0:=Tryz.isAgg0
  z0:=Tryz.sizeOf0
  v0:=Tryz.zeroValue0
  i0:=by kernel_rfl
  t2:=Tryz.underlying2
  a2:=Tryz.isAgg2
  z2:=Tryz.sizeOf2
  v2:=Tryz.zeroValue2
  i2:=by kernel_rfl
  t3:=Tryz.underlying3
  a3:=Tryz.isAgg3
  z3:=Tryz.sizeOf3
  v3:=Tryz.zeroValue3
  i3:=by kernel_rfl
  t4:=Tryz.underlying4
  a4:=Tryz.isAgg4
  z4:=Tryz.sizeOf4
  v4:=Tryz.zeroValue4
  i4:=by kernel_rfl
  t5:=Tryz.underlying5
  a5:=Tryz.isAgg5
  z5:=Tryz.sizeOf5
  v5:=Tryz.zeroValue5
  i5:=by kernel_rfl
  t9:=Tryz.underlying9
  a9:=Tryz.isAgg9
  z9:=Tryz.sizeOf9
  v9:=Tryz.zeroValue9
  i9:=by kernel_rfl
  t20:=Tryz.underlying20
  a20:=Tryz.isAgg20
  z20:=Tryz.sizeOf20
  v20:=Tryz.zeroValue20
  i20:=by kernel_rfl
  t21:=Tryz.underlying21
  a21:=Tryz.isAgg21
  z21:=Tryz.sizeOf21
  v21:=Tryz.zeroValue21
  i21:=by kernel_rfl
  t22:=Tryz.underlying200
  a22:=Tryz.isAgg200
  z22:=Tryz.sizeOf200
  v22:=Tryz.zeroValue200
  i22:=by kernel_rfl
  t24:=Tryz.underlying153
  a24:=Tryz.isAgg153
  z24:=Tryz.sizeOf153
  v24:=Tryz.zeroValue153
  i24:=by kernel_rfl
  t25:=Tryz.underlying221
  a25:=Tryz.isAgg221
  z25:=Tryz.sizeOf221
  v25:=Tryz.zeroValue221
  i25:=by kernel_rfl
  t34:=Tryz.underlying228
  a34:=Tryz.isAgg228
  z34:=Tryz.sizeOf228
  v34:=Tryz.zeroValue228
  i34:=by kernel_rfl
  c34:=by kernel_rfl
  t36:=Tryz.underlying51
  a36:=Tryz.isAgg51
  z36:=Tryz.sizeOf51
  v36:=Tryz.zeroValue51
  i36:=by kernel_rfl
  t37:=Tryz.underlying99
  a37:=Tryz.isAgg99
  z37:=Tryz.sizeOf99
  v37:=Tryz.zeroValue99
  i37:=by kernel_rfl
  t39:=Tryz.underlying229
  a39:=Tryz.isAgg229
  z39:=Tryz.sizeOf229
  v39:=Tryz.zeroValue229
  i39:=by kernel_rfl
  t44:=Tryz.underlying242
  a44:=Tryz.isAgg242
  z44:=Tryz.sizeOf242
  v44:=Tryz.zeroValue242
  i44:=by kernel_rfl
  t47:=Tryz.underlying158
  a47:=Tryz.isAgg158
  z47:=Tryz.sizeOf158
  v47:=Tryz.zeroValue158
  i47:=by kernel_rfl
  t48:=Tryz.underlying248
  a48:=Tryz.isAgg248
  z48:=Tryz.sizeOf248
  v48:=Tryz.zeroValue248
  i48:=by kernel_rfl
  t50:=Tryz.underlying250
  a50:=Tryz.isAgg250
  z50:=Tryz.sizeOf250
  v50:=Tryz.zeroValue250
  i50:=by kernel_rfl
  t52:=Tryz.underlying235
  a52:=Tryz.isAgg235
  z52:=Tryz.sizeOf235
  v52:=Tryz.zeroValue235
  i52:=by kernel_rfl
  t55:=Tryz.underlying238
  a55:=Tryz.isAgg238
  z55:=Tryz.sizeOf238
  v55:=Tryz.zeroValue238
  i55:=by kernel_rfl
  t59:=Tryz.underlying245
  a59:=Tryz.isAgg245
  z59:=Tryz.sizeOf245
  v59:=Tryz.zeroValue245
  i59:=by kernel_rfl
  t60:=Tryz.underlying207
  a60:=Tryz.isAgg207
  z60:=Tryz.sizeOf207
  v60:=Tryz.zeroValue207
  i60:=by kernel_rfl
  t61:=Tryz.underlying246
  a61:=Tryz.isAgg246
  z61:=Tryz.sizeOf246
  t65:=Tryz.underlying251
  a65:=Tryz.isAgg251
  z65:=Tryz.sizeOf251
  v65:=Tryz.zeroValue251
  i65:=by kernel_rfl
  t66:=Tryz.underlying252
  a66:=Tryz.isAgg252
  z66:=Tryz.sizeOf252
  v66:=Tryz.zeroValue252
  i66:=by kernel_rfl
  t67:=Tryz.underlying37
  a67:=Tryz.isAgg37
  z67:=Tryz.sizeOf37
  v67:=Tryz.zeroValue37
  i67:=by kernel_rfl
  g0:=by kernel_rfl
  m0:=by kernel_rfl
  g1:=by kernel_rfl
  m1:=by kernel_rfl
  g2:=by kernel_rfl
  m2:=by kernel_rfl
  g3:=by kernel_rfl
  m3:=by kernel_rfl
  g4:=by kernel_rfl
  m4:=by kernel_rfl }
open Go.RowKit in
theorem Tryz.strconv_ParseUint_10_at32_ok (s:ByteArray) (hmax:s.size≤9223372036854775806) (u:Nat) (h:Lib.parseUintB 32 s.data.toList=.ok u) (w:World):
    Calls Tryz.prog 212 #[.string s,.int .i64 10,.int .i64 32] w fun e w'=>e=.returned (.tuple #[.int .u64 u,.nilIface])∧(w'=w∨w'=Lib.bytesWorld w 5 s):=Any.strconv_ParseUint_10_at32_ok Tryz.laysPu14 s hmax u h w
open Go.RowKit Go.Lib in
def Tryz.lays145_ren:Go.Shelf.Ren:=⟨fun | 145=>82 | 220=>123 | 219=>171 | 217=>205 | 225=>206 | 224=>207 | 267=>208 | 266=>222 | 314=>223 | n=>n,fun | 9=>9 | 4=>4 | 59=>124 | 3=>3 | 5=>5 | 46=>51 | 146=>226 | 51=>207 | n=>n,fun | 1=>0 | n=>n⟩
theorem Tryz.lays145:Go.Proofs.Lays.n145 Tryz.prog Tryz.lays145_ren:={
  mixed:=by kernel_rfl
  f145:=Tryz.func82.trans (congrArg some (by kernel_rfl))
  f217:=Tryz.func205.trans (congrArg some (by kernel_rfl))
  f219:=Tryz.func171.trans (congrArg some (by kernel_rfl))
  f220:=Tryz.func123.trans (congrArg some (by kernel_rfl))
  f224:=Tryz.func207.trans (congrArg some (by kernel_rfl))
  f225:=Tryz.func206.trans (congrArg some (by kernel_rfl))
  f266:=Tryz.func222.trans (congrArg some (by kernel_rfl))
  f267:=Tryz.func208.trans (congrArg some (by kernel_rfl))
  f314:=Tryz.func223.trans (congrArg some (by kernel_rfl))
  t3:=Tryz.underlying3
  a3:=Tryz.isAgg3
  z3:=Tryz.sizeOf3
  v3:=Tryz.zeroValue3
  t4:=Tryz.underlying4
  a4:=Tryz.isAgg4
  z4:=Tryz.sizeOf4
  v4:=Tryz.zeroValue4
  t5:=Tryz.underlying5
  a5:=Tryz.isAgg5
  z5:=Tryz.sizeOf5
  v5:=Tryz.zeroValue5
  t9:=Tryz.underlying9
  a9:=Tryz.isAgg9
  z9:=Tryz.sizeOf9
  v9:=Tryz.zeroValue9
  t46:=Tryz.underlying51
  a46:=Tryz.isAgg51
  z46:=Tryz.sizeOf51
  v46:=Tryz.zeroValue51
  t51:=Tryz.underlying207
  a51:=Tryz.isAgg207
  z51:=Tryz.sizeOf207
  v51:=Tryz.zeroValue207
  t59:=Tryz.underlying124
  a59:=Tryz.isAgg124
  z59:=Tryz.sizeOf124
  v59:=Tryz.zeroValue124
  t146:=Tryz.underlying226
  a146:=Tryz.isAgg226
  z146:=Tryz.sizeOf226
  v146:=Tryz.zeroValue226
  g1:=by kernel_rfl }
open Go.RowKit Go.Lib in
theorem Tryz.strings_Cut (s sep:ByteArray) (m:Int) (w:World) (hs:s.size<4294967281) (hm:w.cell? ⟨0,0,none⟩=some (.int .i64 m)):
    Calls Tryz.prog 82 #[.string s,.string sep] w fun e w'=>e=.returned (.tuple #[.string ⟨(Lib.cut s.data.toList sep.data.toList).1.toArray⟩,.string ⟨(Lib.cut s.data.toList sep.data.toList).2.1.toArray⟩,.bool (Lib.cut s.data.toList sep.data.toList).2.2])∧∃n,w'=w.drewN n:=Any.strings_Cut Tryz.lays145 s sep m w hs hm
open Go.RowKit Go.Lib in
def Tryz.lays101_ren:Go.Shelf.Ren:=⟨fun | 101=>124 | 208=>172 | 206=>209 | n=>n,fun | 9=>9 | 4=>4 | 3=>3 | n=>n,fun | n=>n⟩
theorem Tryz.lays101:Go.Proofs.Lays.n101 Tryz.prog Tryz.lays101_ren:={
  mixed:=by kernel_rfl
  f101:=Tryz.func124.trans (congrArg some (by kernel_rfl))
  f206:=Tryz.func209.trans (congrArg some (by kernel_rfl))
  f208:=Tryz.func172.trans (congrArg some (by kernel_rfl))
  t3:=Tryz.underlying3
  a3:=Tryz.isAgg3
  z3:=Tryz.sizeOf3
  v3:=Tryz.zeroValue3
  t4:=Tryz.underlying4
  a4:=Tryz.isAgg4
  z4:=Tryz.sizeOf4
  v4:=Tryz.zeroValue4
  t9:=Tryz.underlying9
  a9:=Tryz.isAgg9
  z9:=Tryz.sizeOf9
  v9:=Tryz.zeroValue9 }
open Go.RowKit Go.Lib in
theorem Tryz.strings_TrimPrefix (s p:ByteArray) (w:World):
    Calls Tryz.prog 124 #[.string s,.string p] w fun e w'=>e=.returned (.string ⟨(Lib.trimPrefix s.data.toList p.data.toList).toArray⟩)∧w'=w:=Any.strings_TrimPrefix Tryz.lays101 s p w
def Tryz.lays264_ren:Go.Shelf.Ren:=⟨fun | 264=>183 | n=>n,fun | 53=>200 | 46=>51 | n=>n,fun | n=>n⟩
theorem Tryz.lays264:Go.Proofs.Lays.n264 Tryz.prog Tryz.lays264_ren:={
  mixed:=by kernel_rfl
  f264:=Tryz.func183.trans (congrArg some (by kernel_rfl))
  t46:=Tryz.underlying51
  a46:=Tryz.isAgg51
  z46:=Tryz.sizeOf51
  v46:=Tryz.zeroValue51
  t53:=Tryz.underlying200
  a53:=Tryz.isAgg200
  z53:=Tryz.sizeOf200
  v53:=Tryz.zeroValue200 }
open Go.RowKit Go.Lib in
theorem Tryz.bits_Mul64 (x y:Nat) (hx:x<18446744073709551616) (hy:y<18446744073709551616) (w:World):
    Calls Tryz.prog 183 #[.int .u64 x,.int .u64 y] w fun e w'=>e=.returned (.tuple #[.int .u64 ((x*y / 18446744073709551616:Nat):Int),.int .u64 ((x*y % 18446744073709551616:Nat):Int)])∧w'=w:=Any.bits_Mul64 Tryz.lays264 x y hx hy w
open Go.RowKit Go.Lib in
def Tryz.lays193_ren:Go.Shelf.Ren:=⟨fun | 193=>46 | n=>n,fun | 31=>22 | 9=>9 | 4=>4 | 3=>3 | 0=>0 | n=>n,fun | n=>n⟩
theorem Tryz.lays193:Go.Proofs.Lays.n193 Tryz.prog Tryz.lays193_ren:={
  mixed:=by kernel_rfl
  f193:=Tryz.func46.trans (congrArg some (by kernel_rfl))
  t0:=Tryz.underlying0
  a0:=Tryz.isAgg0
  z0:=Tryz.sizeOf0
  v0:=Tryz.zeroValue0
  t3:=Tryz.underlying3
  a3:=Tryz.isAgg3
  z3:=Tryz.sizeOf3
  v3:=Tryz.zeroValue3
  t4:=Tryz.underlying4
  a4:=Tryz.isAgg4
  z4:=Tryz.sizeOf4
  v4:=Tryz.zeroValue4
  t9:=Tryz.underlying9
  a9:=Tryz.isAgg9
  z9:=Tryz.sizeOf9
  v9:=Tryz.zeroValue9
  t31:=Tryz.underlying22
  a31:=Tryz.isAgg22
  z31:=Tryz.sizeOf22
  v31:=Tryz.zeroValue22 }
open Go.RowKit Go.Lib in
theorem Tryz.slices_Equal_string (b1 o1 n c b2 o2 m d:Nat) (xs ys:List ByteArray) (w:World) (hx:n≤xs.length) (hy:m≤ys.length) (hbig:n≤9223372036854775807) (hbig2:m≤9223372036854775807) (hc1:∀j,j<xs.length→w.cell? ⟨b1,o1+j,none⟩=some (.string (xs.getD j ByteArray.empty))) (hc2:∀j,j<ys.length→w.cell? ⟨b2,o2+j,none⟩=some (.string (ys.getD j ByteArray.empty))):
    Calls Tryz.prog 46 #[.slice (some ⟨b1,o1,none⟩) n c,.slice (some ⟨b2,o2,none⟩) m d] w fun e w'=>e=.returned (.bool (decide (xs.take n=ys.take m)))∧∃q,w'=w.drewN q:=Any.slices_Equal_string Tryz.lays193 b1 o1 n c b2 o2 m d xs ys w hx hy hbig hbig2 hc1 hc2
open Go.RowKit Go.Lib in
theorem Tryz.slices_Equal_string_empty (a1 a2:Option Addr) (c m d:Nat) (w:World) (hbig2:m≤9223372036854775807):
    Calls Tryz.prog 46 #[.slice a1 0 c,.slice a2 m d] w fun e w'=>e=.returned (.bool (decide (m=0)))∧w'=w:=Any.slices_Equal_string_empty Tryz.lays193 a1 a2 c m d w hbig2
open Go.RowKit Go.Lib Go.Sort in
def Tryz.laysNm216_ren:Go.Shelf.Ren:=⟨fun | 16=>67 | n=>n,fun | 24=>22 | 9=>9 | 4=>4 | n=>n,fun | n=>n⟩
theorem Tryz.laysNm216:Go.Proofs.Lays2.n16 Tryz.prog Tryz.laysNm216_ren:={
  mixed:=by kernel_rfl
  f16:=Tryz.func67.trans (congrArg some (by kernel_rfl))
  t4:=Tryz.underlying4
  a4:=Tryz.isAgg4
  z4:=Tryz.sizeOf4
  v4:=Tryz.zeroValue4
  t9:=Tryz.underlying9
  a9:=Tryz.isAgg9
  z9:=Tryz.sizeOf9
  v9:=Tryz.zeroValue9
  t24:=Tryz.underlying22
  a24:=Tryz.isAgg22
  z24:=Tryz.sizeOf22
  v24:=Tryz.zeroValue22
  i9:=by kernel_rfl }
open Go.RowKit Go.Lib in
theorem Tryz.slices_Clone_string (b off n c:Nat) (zs:List ByteArray) (w:World) (hz:n≤zs.length) (hbig:n*16≤140737488355328) (hc:∀j,j<zs.length→w.cell? ⟨b,off+j,none⟩=some (.string (zs.getD j ByteArray.empty))):
    Calls Tryz.prog 67 #[.slice (some ⟨b,off,none⟩) n c] w fun e w'=>∃v',e=.returned v'∧w'.ownsRow w.heap.size 9 1 v' n ((zs.take n).map (Value.string))∧v'≠.slice none 0 0∧Below w.heap.size w w':=Any.slices_Clone_string Tryz.laysNm216 b off n c zs w hz hbig hc
open Go.RowKit Go.Lib in
theorem Tryz.slices_Clone_string_nil (n c:Nat) (w:World):
    Calls Tryz.prog 67 #[.slice none n c] w fun e w'=>e=.returned (.slice none 0 0)∧w'=w:=Any.slices_Clone_string_nil Tryz.laysNm216 n c w
open Go.RowKit Go.Lib in
theorem Tryz.slices_Clone_string_zero (a:Addr) (c:Nat) (w:World):
    Calls Tryz.prog 67 #[.slice (some a) 0 c] w fun e w'=>∃v',e=.returned v'∧w'.ownsRow w.heap.size 9 1 v' 0 []∧v'≠.slice none 0 0∧Below w.heap.size w w':=Any.slices_Clone_string_zero Tryz.laysNm216 a c w
def Tryz.laysNm224_ren:Go.Shelf.Ren:=⟨fun | 24=>69 | n=>n,fun | 24=>22 | 9=>9 | 3=>3 | 4=>4 | 0=>0 | n=>n,fun | n=>n⟩
theorem Tryz.laysNm224:Go.Proofs.Lays2.n24 Tryz.prog Tryz.laysNm224_ren:={
  mixed:=by kernel_rfl
  f24:=Tryz.func69.trans (congrArg some (by kernel_rfl))
  t0:=Tryz.underlying0
  a0:=Tryz.isAgg0
  z0:=Tryz.sizeOf0
  v0:=Tryz.zeroValue0
  t3:=Tryz.underlying3
  a3:=Tryz.isAgg3
  z3:=Tryz.sizeOf3
  v3:=Tryz.zeroValue3
  t4:=Tryz.underlying4
  a4:=Tryz.isAgg4
  z4:=Tryz.sizeOf4
  v4:=Tryz.zeroValue4
  t9:=Tryz.underlying9
  a9:=Tryz.isAgg9
  z9:=Tryz.sizeOf9
  v9:=Tryz.zeroValue9
  t24:=Tryz.underlying22
  a24:=Tryz.isAgg22
  z24:=Tryz.sizeOf22
  v24:=Tryz.zeroValue22
  i9:=by kernel_rfl }
open Go.RowKit Go.Lib Go.Sort in
theorem Tryz.slices_Delete_string_cells (b off n c i j:Nat) (Sx:Nat→ByteArray) (w:World) (hcap:n≤c) (hm:c≤9223372036854775807) (hij:i≤j) (hj:j≤n) (hc:∀i,i<n→w.cell? ⟨b,off+i,none⟩=some (.string (Sx i))) (hf:∀j,j<n→w.frozen? ⟨b,off+j,none⟩=false):
    Calls Tryz.prog 69 #[.slice (some ⟨b,off,none⟩) n c,.int .i64 i,.int .i64 j] w fun e w'=>e=.returned (.slice (some ⟨b,off,none⟩) (n-(j-i)) c)∧∃q,w'=(w.drewN q).setCells b off (((Lib.strsOf Sx n).take i++(Lib.strsOf Sx n).drop j++List.replicate (j-i) []).map encStr):=Any.slices_Delete_string_cells Tryz.laysNm224 b off n c i j Sx w hcap hm hij hj hc hf
open Go.RowKit Go.Lib in
theorem Tryz.slices_Equal_string_lens (a1 a2:Option Addr) (n c m d:Nat) (w:World) (hnm:n≠m):
    Calls Tryz.prog 46 #[.slice a1 n c,.slice a2 m d] w fun e w'=>e=.returned (.bool false)∧w'=w:=Any.slices_Equal_string_lens Tryz.lays193 a1 a2 n c m d w hnm
end Go.Proofs
