import Derived.Shelf.Strings.Builder1
import Derived.Shelf.Small.Strs
import Derived.Shelf.Strings.BuilderF
import Derived.Shelf.Strings.BuilderK
import Derived.Shelf.Strings.BuilderRune
import Derived.Shelf.Strconv.Atoi
import Derived.Shelf.Strconv.Itoa0
import Derived.Shelf.Strconv.Itoa1
import Derived.Shelf.LaysM
import Derived.Shelf.Strconv.Itoa2
import Derived.Shelf.Strconv.Itoa3
import Derived.Shelf.Strconv.AtoiErrFast
import Derived.Shelf.Strconv.ParseIntEmpty
import Derived.Shelf.Strconv.AtoiFail
import Derived.Shelf.Strconv.Clone
import Derived.Shelf.Strconv.SyntaxError
import Derived.Shelf.LaysC
import Derived.Shelf.Strconv.ToError
import Derived.Shelf.Strconv.Lower
import Derived.Shelf.Strconv.ParseUint10
import Derived.Shelf.Strconv.ParseUint10Empty
import Derived.Shelf.Strconv.ParseUint10Any
import Derived.Shelf.Strconv.ParseInt10
import Derived.Shelf.Strconv.AtoiLong
import Derived.Shelf.Strconv.AtoiInnerAll
import Derived.Shelf.Strconv.RangeError
import Derived.Shelf.Strconv.ToErrorRange
import Derived.Shelf.Strconv.AtoiAll
import Derived.Shelf.Strconv.ErrVarAll
import Derived.Shelf.Strings.Prefix
import Derived.Shelf.Slices.Turned
import Derived.Test.YtpbbmagjhkakgaaGreatDoorProg
import Derived.Deep.Trees
import Derived.Lib.AtoiAll
import Derived.WalkKit
import Derived.WalkSpells
import Derived.WalkLawsBesides
import Derived.Lib.OthersKept
import Derived.Laws.RangeAny
import Derived.Lib.Strings
namespace Go.Proofs
open Go.Shelf
def Tryz.lays213_ren:Go.Shelf.Ren:=⟨fun | 213=>176 | 265=>197 | n=>n,fun | 9=>9 | 3=>3 | n=>n,fun | n=>n⟩
def Tryz.lays106_ren:Go.Shelf.Ren:=⟨fun | 106=>141 | 213=>176 | 265=>197 | n=>n,fun | 9=>9 | 3=>3 | n=>n,fun | n=>n⟩
theorem Tryz.lays106:Go.Proofs.Lays.n106 Tryz.prog Tryz.lays106_ren:={
 mixed:=by kernel_rfl
 f106:=Tryz.func141.trans (congrArg some (by kernel_rfl))
 f213:=Tryz.func176.trans (congrArg some (by kernel_rfl))
 f265:=Tryz.func197.trans (congrArg some (by kernel_rfl))
 t3:=Tryz.underlying3
 a3:=Tryz.isAgg3
 z3:=Tryz.sizeOf3
 v3:=Tryz.zeroValue3
 t9:=Tryz.underlying9
 a9:=Tryz.isAgg9
 z9:=Tryz.sizeOf9
 v9:=Tryz.zeroValue9 }
open Go.RowKit in
theorem Tryz.strings_Compare (a b:ByteArray) (w:World) :
  Calls Tryz.prog 141 #[.string a,.string b] w fun e w'=>e=.returned (.int .i64 (Lib.compareBytes a.data.toList b.data.toList))/\w'=w:=Any.strings_Compare Tryz.lays106 a b w
def Tryz.lays172_ren:Go.Shelf.Ren:=⟨fun | 172=>210 | 244=>216 | 245=>217 | 247=>223 | 279=>224 | 280=>225 | 281=>226 | 282=>227 | 287=>230 | 316=>172 | 171=>166 | 205=>231 | 321=>232 | 322=>233 | 243=>191 | 246=>206 | 283=>211 | 284=>212 | 285=>213 | 286=>214 | 129=>219 | 317=>218 | 318=>220 | 319=>221 | 320=>222 | 337=>228 | 338=>229 | n=>n,fun | 9=>9 | 3=>3 | 75=>89 | 76=>167 | 4=>4 | 5=>5 | 167=>343 | 37=>99 | 0=>0 | 85=>344 | 2=>2 | 168=>346 | 53=>332 | 175=>350 | 46=>200 | 210=>353 | 127=>224 | 145=>359 | 143=>357 | 21=>21 | 171=>331 | 173=>335 | 212=>340 | 51=>325 | 20=>20 | 213=>341 | 232=>354 | 233=>355 | 80=>93 | n=>n,fun | 15=>10 | 16=>11 | 17=>9 | 18=>12 | 19=>13 | n=>n⟩
def Tryz.laysM316_ren:Go.Shelf.Ren:=⟨fun | 316=>172 | n=>n,fun | 9=>9 | 3=>3 | 4=>4 | 37=>99 | 0=>0 | 127=>224 | 5=>5 | n=>n,fun | n=>n⟩
theorem Tryz.laysM316:Go.Proofs.LaysM.n316 Tryz.prog Tryz.laysM316_ren:={
 mixed:=by kernel_rfl
 f316:=Tryz.func172.trans (congrArg some (by kernel_rfl))
 t0:=Tryz.underlying0
 a0:=Tryz.isAgg0
 z0:=Tryz.sizeOf0
 v0:=Tryz.zeroValue0
 t3:=Tryz.underlying3
 a3:=Tryz.isAgg3
 z3:=Tryz.sizeOf3
 v3:=Tryz.zeroValue3
 t4:=Tryz.underlying4
 a4:=Tryz.isAgg4
 z4:=Tryz.sizeOf4
 v4:=Tryz.zeroValue4
 t9:=Tryz.underlying9
 a9:=Tryz.isAgg9
 z9:=Tryz.sizeOf9
 v9:=Tryz.zeroValue9
 t37:=Tryz.underlying99
 a37:=Tryz.isAgg99
 z37:=Tryz.sizeOf99
 v37:=Tryz.zeroValue99
 t127:=Tryz.underlying224
 a127:=Tryz.isAgg224
 z127:=Tryz.sizeOf224
 v127:=Tryz.zeroValue224
 t5:=Tryz.underlying5
 a5:=Tryz.isAgg5
 z5:=Tryz.sizeOf5
 v5:=Tryz.zeroValue5
 i0:=by kernel_rfl
 i3:=by kernel_rfl
 i4:=by kernel_rfl
 i5:=by kernel_rfl
 i9:=by kernel_rfl
 i37:=by kernel_rfl
 i127:=by kernel_rfl }
open Go.RowKit in
theorem Tryz.stringslite_Clone (s:ByteArray) (w:World) (hlim:s.size<=281474976710656) :
  Calls Tryz.prog 172 #[.string s] w fun e w'=>e=.returned (.string s)/\Below w.heap.size w w':=Any.stringslite_Clone Tryz.laysM316 s w hlim
def Tryz.laysC172_ren:Go.Shelf.Ren:=⟨fun | 172=>210 | 244=>216 | 245=>217 | 247=>223 | 279=>224 | 280=>225 | 281=>226 | 282=>227 | 287=>230 | 316=>172 | 171=>166 | 205=>231 | 321=>232 | 322=>233 | 243=>191 | 246=>206 | 283=>211 | 284=>212 | 285=>213 | 286=>214 | 129=>219 | 317=>218 | 318=>220 | 319=>221 | 320=>222 | 337=>228 | 338=>229 | n=>n,fun | 9=>9 | 3=>3 | 75=>89 | 76=>167 | 4=>4 | 5=>5 | 167=>343 | 37=>99 | 0=>0 | 85=>344 | 2=>2 | 168=>346 | 53=>332 | 175=>350 | 46=>200 | 210=>353 | 127=>224 | 145=>359 | 143=>357 | 21=>21 | 171=>331 | 173=>335 | 212=>340 | 51=>325 | 20=>20 | 213=>341 | 232=>354 | 233=>355 | 80=>93 | n=>n,fun | 15=>10 | 16=>11 | 17=>9 | 18=>12 | 19=>13 | n=>n⟩
theorem Tryz.laysC172:Go.Proofs.LaysC.n172 Tryz.prog Tryz.laysC172_ren:={
 mixed:=by kernel_rfl
 f129:=Tryz.func219.trans (congrArg some (by kernel_rfl))
 f171:=Tryz.func166.trans (congrArg some (by kernel_rfl))
 f172:=Tryz.func210.trans (congrArg some (by kernel_rfl))
 f205:=Tryz.func231.trans (congrArg some (by kernel_rfl))
 f243:=Tryz.func191.trans (congrArg some (by kernel_rfl))
 f244:=Tryz.func216.trans (congrArg some (by kernel_rfl))
 f245:=Tryz.func217.trans (congrArg some (by kernel_rfl))
 f246:=Tryz.func206.trans (congrArg some (by kernel_rfl))
 f247:=Tryz.func223.trans (congrArg some (by kernel_rfl))
 f279:=Tryz.func224.trans (congrArg some (by kernel_rfl))
 f280:=Tryz.func225.trans (congrArg some (by kernel_rfl))
 f281:=Tryz.func226.trans (congrArg some (by kernel_rfl))
 f282:=Tryz.func227.trans (congrArg some (by kernel_rfl))
 f283:=Tryz.func211.trans (congrArg some (by kernel_rfl))
 f284:=Tryz.func212.trans (congrArg some (by kernel_rfl))
 f285:=Tryz.func213.trans (congrArg some (by kernel_rfl))
 f286:=Tryz.func214.trans (congrArg some (by kernel_rfl))
 f287:=Tryz.func230.trans (congrArg some (by kernel_rfl))
 f316:=Tryz.func172.trans (congrArg some (by kernel_rfl))
 f317:=Tryz.func218.trans (congrArg some (by kernel_rfl))
 f318:=Tryz.func220.trans (congrArg some (by kernel_rfl))
 f319:=Tryz.func221.trans (congrArg some (by kernel_rfl))
 f320:=Tryz.func222.trans (congrArg some (by kernel_rfl))
 f321:=Tryz.func232.trans (congrArg some (by kernel_rfl))
 f322:=Tryz.func233.trans (congrArg some (by kernel_rfl))
 f337:=Tryz.func228.trans (congrArg some (by kernel_rfl))
 f338:=Tryz.func229.trans (congrArg some (by kernel_rfl))
 t0:=Tryz.underlying0
 a0:=Tryz.isAgg0
 z0:=Tryz.sizeOf0
 v0:=Tryz.zeroValue0
 t2:=Tryz.underlying2
 a2:=Tryz.isAgg2
 z2:=Tryz.sizeOf2
 v2:=Tryz.zeroValue2
 t3:=Tryz.underlying3
 a3:=Tryz.isAgg3
 z3:=Tryz.sizeOf3
 v3:=Tryz.zeroValue3
 t4:=Tryz.underlying4
 a4:=Tryz.isAgg4
 z4:=Tryz.sizeOf4
 v4:=Tryz.zeroValue4
 t5:=Tryz.underlying5
 a5:=Tryz.isAgg5
 z5:=Tryz.sizeOf5
 v5:=Tryz.zeroValue5
 t9:=Tryz.underlying9
 a9:=Tryz.isAgg9
 z9:=Tryz.sizeOf9
 v9:=Tryz.zeroValue9
 t20:=Tryz.underlying20
 a20:=Tryz.isAgg20
 z20:=Tryz.sizeOf20
 v20:=Tryz.zeroValue20
 t21:=Tryz.underlying21
 a21:=Tryz.isAgg21
 z21:=Tryz.sizeOf21
 v21:=Tryz.zeroValue21
 t37:=Tryz.underlying99
 a37:=Tryz.isAgg99
 z37:=Tryz.sizeOf99
 v37:=Tryz.zeroValue99
 t46:=Tryz.underlying200
 a46:=Tryz.isAgg200
 z46:=Tryz.sizeOf200
 v46:=Tryz.zeroValue200
 t51:=Tryz.underlying325
 a51:=Tryz.isAgg325
 z51:=Tryz.sizeOf325
 v51:=Tryz.zeroValue325
 t53:=Tryz.underlying332
 a53:=Tryz.isAgg332
 z53:=Tryz.sizeOf332
 v53:=Tryz.zeroValue332
 t75:=Tryz.underlying89
 a75:=Tryz.isAgg89
 z75:=Tryz.sizeOf89
 v75:=Tryz.zeroValue89
 t76:=Tryz.underlying167
 a76:=Tryz.isAgg167
 z76:=Tryz.sizeOf167
 v76:=Tryz.zeroValue167
 t85:=Tryz.underlying344
 a85:=Tryz.isAgg344
 z85:=Tryz.sizeOf344
 v85:=Tryz.zeroValue344
 t127:=Tryz.underlying224
 a127:=Tryz.isAgg224
 z127:=Tryz.sizeOf224
 v127:=Tryz.zeroValue224
 t143:=Tryz.underlying357
 a143:=Tryz.isAgg357
 z143:=Tryz.sizeOf357
 v143:=Tryz.zeroValue357
 t145:=Tryz.underlying359
 a145:=Tryz.isAgg359
 z145:=Tryz.sizeOf359
 v145:=Tryz.zeroValue359
 t167:=Tryz.underlying343
 a167:=Tryz.isAgg343
 z167:=Tryz.sizeOf343
 v167:=Tryz.zeroValue343
 t168:=Tryz.underlying346
 a168:=Tryz.isAgg346
 z168:=Tryz.sizeOf346
 v168:=Tryz.zeroValue346
 t171:=Tryz.underlying331
 a171:=Tryz.isAgg331
 z171:=Tryz.sizeOf331
 v171:=Tryz.zeroValue331
 t173:=Tryz.underlying335
 a173:=Tryz.isAgg335
 z173:=Tryz.sizeOf335
 v173:=Tryz.zeroValue335
 t175:=Tryz.underlying350
 a175:=Tryz.isAgg350
 z175:=Tryz.sizeOf350
 v175:=Tryz.zeroValue350
 t210:=Tryz.underlying353
 a210:=Tryz.isAgg353
 z210:=Tryz.sizeOf353
 v210:=Tryz.zeroValue353
 t212:=Tryz.underlying340
 a212:=Tryz.isAgg340
 z212:=Tryz.sizeOf340
 v212:=Tryz.zeroValue340
 t213:=Tryz.underlying341
 a213:=Tryz.isAgg341
 z213:=Tryz.sizeOf341
 t232:=Tryz.underlying354
 a232:=Tryz.isAgg354
 z232:=Tryz.sizeOf354
 v232:=Tryz.zeroValue354
 t233:=Tryz.underlying355
 a233:=Tryz.isAgg355
 z233:=Tryz.sizeOf355
 v233:=Tryz.zeroValue355
 g15:=by kernel_rfl
 g16:=by kernel_rfl
 g17:=by kernel_rfl
 g18:=by kernel_rfl
 g19:=by kernel_rfl
 t80:=Tryz.underlying93
 a80:=Tryz.isAgg93
 z80:=Tryz.sizeOf93
 v80:=Tryz.zeroValue93
 i0:=by kernel_rfl
 i2:=by kernel_rfl
 i3:=by kernel_rfl
 i4:=by kernel_rfl
 i5:=by kernel_rfl
 i9:=by kernel_rfl
 i20:=by kernel_rfl
 i21:=by kernel_rfl
 i37:=by kernel_rfl
 i46:=by kernel_rfl
 i51:=by kernel_rfl
 i53:=by kernel_rfl
 i75:=by kernel_rfl
 i76:=by kernel_rfl
 i80:=by kernel_rfl
 i85:=by kernel_rfl
 i127:=by kernel_rfl
 i143:=by kernel_rfl
 i145:=by kernel_rfl
 i167:=by kernel_rfl
 i168:=by kernel_rfl
 i171:=by kernel_rfl
 i173:=by kernel_rfl
 i175:=by kernel_rfl
 i210:=by kernel_rfl
 i212:=by kernel_rfl
 i232:=by kernel_rfl
 i233:=by kernel_rfl
 m15:=by kernel_rfl
 m16:=by kernel_rfl
 m17:=by kernel_rfl
 m18:=by kernel_rfl
 m19:=by kernel_rfl
 c0:=by kernel_rfl
 c2:=by kernel_rfl
 c3:=by kernel_rfl
 c4:=by kernel_rfl
 c5:=by kernel_rfl
 c9:=by kernel_rfl
 c20:=by kernel_rfl
 c21:=by kernel_rfl
 c37:=by kernel_rfl
 c46:=by kernel_rfl
 c51:=by kernel_rfl
 c53:=by kernel_rfl
 c75:=by kernel_rfl
 c76:=by kernel_rfl
 c80:=by kernel_rfl
 c85:=by kernel_rfl
 c127:=by kernel_rfl
 c143:=by kernel_rfl
 c145:=by kernel_rfl
 c167:=by kernel_rfl
 c168:=by kernel_rfl
 c171:=by kernel_rfl
 c173:=by kernel_rfl
 c175:=by kernel_rfl
 c210:=by kernel_rfl
 c212:=by kernel_rfl
 c213:=by kernel_rfl
 c232:=by kernel_rfl
 c233:=by kernel_rfl }
open Go.RowKit in
theorem Tryz.strconv_Atoi_ok (s:ByteArray) (hmax:s.size<=9223372036854775806) (v:Int) (h:Lib.atoiAll s.data.toList=.ok v) (w:World) :
  Calls Tryz.prog 210 #[.string s] w fun e w'=>e=.returned (.tuple #[.int .i64 v,.nilIface])/\(w'=w\/∃ t,w'=Lib.bytesWorld w 5 t):=Any.strconv_Atoi_ok Tryz.laysC172 s hmax v h w
open Go.RowKit in
theorem Tryz.strconv_Atoi_syntax (s:ByteArray) (hlim:s.size<=281474976710656) (h:Lib.atoiAll s.data.toList=.«syntax») (ev:Value) (w:World) (hv:w.cell? ⟨10,0,none⟩=some ev) (hev:ev=.nilIface\/∃ te pe,ev=.iface te pe) :
  Calls Tryz.prog 210 #[.string s] w fun e w'=>∃ N,e=.returned (.tuple #[.int .i64 (0),.iface 346 (.pointer (some ⟨N,0,none⟩))])/\w.heap.size<=N/\w'.heap[N]? = some (.cells #[.string ⟨#[65,116,111,105]⟩,.string s,ev] 353 (0,0))/\Below w.heap.size w w':=Any.strconv_Atoi_syntax Tryz.laysC172 s hlim h ev w hv hev
open Go.RowKit in
theorem Tryz.strconv_Atoi_range (s:ByteArray) (hlim:s.size<=281474976710656) (h:Lib.atoiAll s.data.toList=.range) (ev:Value) (w:World) (hv:w.cell? ⟨11,0,none⟩=some ev) (hev:ev=.nilIface\/∃ te pe,ev=.iface te pe) :
  Calls Tryz.prog 210 #[.string s] w fun e w'=>∃ N,e=.returned (.tuple #[.int .i64 (Lib.atoiSat s.data.toList),.iface 346 (.pointer (some ⟨N,0,none⟩))])/\w.heap.size<=N/\w'.heap[N]? = some (.cells #[.string ⟨#[65,116,111,105]⟩,.string s,ev] 353 (0,0))/\Below w.heap.size w w':=Any.strconv_Atoi_range Tryz.laysC172 s hlim h ev w hv hev
def Tryz.lays206_ren:Go.Shelf.Ren:=⟨fun | 206=>203 | n=>n,fun | 9=>9 | 4=>4 | 3=>3 | n=>n,fun | n=>n⟩
def Tryz.lays99_ren:Go.Shelf.Ren:=⟨fun | 99=>185 | 206=>203 | n=>n,fun | 9=>9 | 4=>4 | 3=>3 | n=>n,fun | n=>n⟩
theorem Tryz.lays99:Go.Proofs.Lays.n99 Tryz.prog Tryz.lays99_ren:={
 mixed:=by kernel_rfl
 f99:=Tryz.func185.trans (congrArg some (by kernel_rfl))
 f206:=Tryz.func203.trans (congrArg some (by kernel_rfl))
 t3:=Tryz.underlying3
 a3:=Tryz.isAgg3
 z3:=Tryz.sizeOf3
 v3:=Tryz.zeroValue3
 t4:=Tryz.underlying4
 a4:=Tryz.isAgg4
 z4:=Tryz.sizeOf4
 v4:=Tryz.zeroValue4
 t9:=Tryz.underlying9
 a9:=Tryz.isAgg9
 z9:=Tryz.sizeOf9
 v9:=Tryz.zeroValue9 }
open Go.RowKit Go.Lib in
theorem Tryz.strings_HasPrefix (s p:ByteArray) (w:World) :
  Calls Tryz.prog 185 #[.string s,.string p] w fun e w'=>e=.returned (.bool (Lib.hasPrefix s.data.toList p.data.toList))/\w'=w:=Any.strings_HasPrefix Tryz.lays99 s p w
def Tryz.lays110_ren:Go.Shelf.Ren:=⟨fun | 110=>168 | 109=>192 | n=>n,fun | 31=>31 | 9=>9 | 4=>4 | 3=>3 | 0=>0 | n=>n,fun | n=>n⟩
theorem Tryz.lays110:Go.Proofs.Lays.n110 Tryz.prog Tryz.lays110_ren:={
 mixed:=by kernel_rfl
 f109:=Tryz.func192.trans (congrArg some (by kernel_rfl))
 f110:=Tryz.func168.trans (congrArg some (by kernel_rfl))
 t0:=Tryz.underlying0
 a0:=Tryz.isAgg0
 z0:=Tryz.sizeOf0
 v0:=Tryz.zeroValue0
 t3:=Tryz.underlying3
 a3:=Tryz.isAgg3
 z3:=Tryz.sizeOf3
 v3:=Tryz.zeroValue3
 t4:=Tryz.underlying4
 a4:=Tryz.isAgg4
 z4:=Tryz.sizeOf4
 v4:=Tryz.zeroValue4
 t9:=Tryz.underlying9
 a9:=Tryz.isAgg9
 z9:=Tryz.sizeOf9
 v9:=Tryz.zeroValue9
 t31:=Tryz.underlying31
 a31:=Tryz.isAgg31
 z31:=Tryz.sizeOf31
 v31:=Tryz.zeroValue31 }
open Go.Lib in
theorem Tryz.slices_Contains_string (b off n c:Nat) (zs:List ByteArray) (x:ByteArray) (w:World) (hz:n<=zs.length) (hbig:n<=9223372036854775807) (hc:∀ j,j<zs.length->w.cell? ⟨b,off+j,none⟩=some (.string (zs.getD j ByteArray.empty))) :
  Calls Tryz.prog 168 #[.slice (some ⟨b,off,none⟩) n c,.string x] w fun e w'=>e=.returned (.bool (Lib.containsS (zs.take n) x))/\w'=w:=Any.slices_Contains_string Tryz.lays110 b off n c zs x w hz hbig hc
open Go.Lib in
theorem Tryz.slices_Contains_string_empty (a:Option Addr) (c:Nat) (x:ByteArray) (w:World) :
  Calls Tryz.prog 168 #[.slice a 0 c,.string x] w fun e w'=>e=.returned (.bool false)/\w'=w:=Any.slices_Contains_string_empty Tryz.lays110 a c x w
end Go.Proofs
namespace Go.Proofs.YtpbbmagjhkakgaaGreatDoor
open Go.Deep (BT)
def signF (r:Int):Int :=
 if r=33 then 172 else if r=38 then 8743 else if r=124 then 8744
 else if r=172\/r=8743\/r=8744\/r=89\/r=79\/r=72\/r=83\/r=40\/r=41\/r=91\/r=93\/r=44\/r=32 then r
 else if 97<=r/\r<=122 then 97 else if 48<=r/\r<=57 then 48 else -2
def joinsB (s:Int):Bool:=s==97||s==48
def winB (o:Int):Bool:=o==89||o==79||o==72||o==83
structure Tok where
 sign:Int
 place:Int
 word:ByteArray
theorem bytes_ext {a b:ByteArray} (h:a.data.toList=b.data.toList):a=b:=by
 obtain ⟨⟨la⟩⟩:=a
 obtain ⟨⟨lb⟩⟩:=b
 simp at h
 subst h
 rfl
structure Pay where
 op:Int
 name:ByteArray
 lo:Int
 hi:Int
def mk (op:Int) (name:ByteArray) (lo hi:Int) (l r:BT Pay):BT Pay:=.node 0 0 ⟨op,name,lo,hi⟩ l r
def takeF:List Tok->Tok×List Tok
 | []=>(⟨-1,0,ByteArray.empty⟩,[])
 | t::ts=>if t.sign = -1 then (t,t::ts) else (t,ts)
def expectF (s:Int) (ts:List Tok):Option (List Tok):=if (takeF ts).1.sign=s then some (takeF ts).2 else none
def okNum:Lib.NumEnd Int->Option Int
 | .ok v=>if 1000000<v then none else some v
 | _=>none
theorem okNum_none {x:Lib.NumEnd Int} (h:∀ v,x≠.ok v):okNum x=none:=by
 cases x with
 | ok v=>exact absurd rfl (h v)
 | _=>rfl
def numB (w:ByteArray):Option Int :=
 if 1<w.size/\w.data.toList.headD 0=48 then none
 else okNum (Lib.atoiAll w.data.toList)
def numF (ts:List Tok):Option (Int×List Tok) :=
 if (takeF ts).1.sign=48 then (numB (takeF ts).1.word).map fun v=>(v,(takeF ts).2) else none
def windowF (op:Int) (ts:List Tok):Option ((Int×Int)×List Tok) :=
 if winB op then
  match expectF 91 ts with
  | none=>none
  | some t1=>match numF t1 with
   | none=>none
   | some (a,t2)=>match expectF 44 t2 with
    | none=>none
    | some t3=>match numF t3 with
     | none=>none
     | some (b,t4)=>match expectF 93 t4 with
      | none=>none
      | some t5=>if b<a then none else some ((a,b),t5)
 else some ((0,0),ts)
def trueB:ByteArray:=⟨#[116,114,117,101]⟩
def wordF (t:Tok):Option (BT Pay) :=
 if t.word=trueB then some (mk 116 ByteArray.empty 0 0 .nil .nil)
 else if 8<t.word.size then none
 else some (mk 97 t.word 0 0 .nil .nil)
def singleF (f:List Tok->Option (BT Pay×List Tok)) (op:Int) (ts:List Tok):Option (BT Pay×List Tok) :=
 match windowF op ts with
 | none=>none
 | some ((a,b),t1)=>match f t1 with
  | none=>none
  | some (p,t2)=>some (mk op ByteArray.empty a b p .nil,t2)
def pairF (f:List Tok->Option (BT Pay×List Tok)) (ts:List Tok):Option (BT Pay×List Tok) :=
 match f ts with
 | none=>none
 | some (p,t1) =>
  if (takeF t1).1.sign=8743\/(takeF t1).1.sign=8744\/(takeF t1).1.sign=83 then
   match windowF (takeF t1).1.sign (takeF t1).2 with
   | none=>none
   | some ((a,b),t2)=>match f t2 with
    | none=>none
    | some (q,t3)=>match expectF 41 t3 with
     | none=>none
     | some t4=>some (mk (takeF t1).1.sign ByteArray.empty a b p q,t4)
  else none
def stepF (f:List Tok->Option (BT Pay×List Tok)) (ts:List Tok):Option (BT Pay×List Tok) :=
 if (takeF ts).1.sign=97 then (wordF (takeF ts).1).map fun x=>(x,(takeF ts).2)
 else if (takeF ts).1.sign=40 then pairF f (takeF ts).2
 else if (takeF ts).1.sign=172\/(takeF ts).1.sign=89\/(takeF ts).1.sign=79\/(takeF ts).1.sign=72 then singleF f (takeF ts).1.sign (takeF ts).2
 else none
def parseF:Nat->List Tok->Option (BT Pay×List Tok)
 | 0=>fun _=>none
 | n+1=>stepF (parseF n)
def Ends (ts:List Tok):Prop:=∃ front e,ts=front++[e]/\e.sign = -1/\e.word.size<=300/\∀ t,t∈front->t.sign≠-1/\t.word.size<=300
theorem Ends.take {ts:List Tok} (h:Ends ts):Ends (takeF ts).2/\(takeF ts).2.length<=ts.length/\((takeF ts).1.sign≠-1->(takeF ts).2.length+1=ts.length):=by
 obtain ⟨front,e,rfl,he,hs,hf⟩:=h
 match front,hf with
 | [],_=>simp [takeF,he];exact ⟨[],e,rfl,he,hs,by simp⟩
 | t::f,hf =>
  have ht:=(hf t (by simp)).1
  simp [takeF,ht]
  exact ⟨f,e,rfl,he,hs,fun x hx=>hf x (by simp [hx])⟩
theorem Ends.word {ts:List Tok} (h:Ends ts):(takeF ts).1.word.size<=300:=by
 obtain ⟨front,e,rfl,he,hs,hf⟩:=h
 match front,hf with
 | [],_=>simp [takeF,he];exact hs
 | t::f,hf =>
  have ht:=hf t (by simp)
  simp [takeF,ht.1];exact ht.2
theorem Ends.cons {ts:List Tok} (h:Ends ts):∃ t r,ts=t::r:=by
 obtain ⟨front,e,rfl,_⟩:=h
 cases front with
 | nil=>exact ⟨_,_,rfl⟩
 | cons a l=>exact ⟨_,_,rfl⟩
theorem Ends.expect {ts r:List Tok} {s:Int} (h:Ends ts) (he:expectF s ts=some r):Ends r/\r.length<=ts.length:=by
 unfold expectF at he
 split at he
 ·injection he with he;subst he;exact ⟨h.take.1,h.take.2.1⟩
 ·cases he
theorem Ends.num {ts r:List Tok} {v:Int} (h:Ends ts) (he:numF ts=some (v,r)):Ends r/\r.length<=ts.length:=by
 unfold numF at he
 split at he
 ·cases hb:numB (takeF ts).1.word with
  | none=>simp [hb] at he
  | some x=>simp [hb] at he;obtain ⟨_,rfl⟩:=he;exact ⟨h.take.1,h.take.2.1⟩
 ·cases he
theorem Ends.window {ts r:List Tok} {op:Int} {ab:Int×Int} (h:Ends ts) (he:windowF op ts=some (ab,r)):Ends r/\r.length<=ts.length:=by
 unfold windowF at he
 split at he
 ·cases h1:expectF 91 ts with
  | none=>simp [h1] at he
  | some t1 =>
   obtain ⟨e1,l1⟩:=h.expect h1
   simp only [h1] at he
   cases h2:numF t1 with
   | none=>simp [h2] at he
   | some x =>
    obtain ⟨a,t2⟩:=x
    obtain ⟨e2,l2⟩:=e1.num h2
    simp only [h2] at he
    cases h3:expectF 44 t2 with
    | none=>simp [h3] at he
    | some t3 =>
     obtain ⟨e3,l3⟩:=e2.expect h3
     simp only [h3] at he
     cases h4:numF t3 with
     | none=>simp [h4] at he
     | some y =>
      obtain ⟨b,t4⟩:=y
      obtain ⟨e4,l4⟩:=e3.num h4
      simp only [h4] at he
      cases h5:expectF 93 t4 with
      | none=>simp [h5] at he
      | some t5 =>
       obtain ⟨e5,l5⟩:=e4.expect h5
       simp only [h5] at he
       split at he
       ·cases he
       ·injection he with he;injection he with _ he;subst he;exact ⟨e5,by omega⟩
 ·injection he with he;injection he with _ he;subst he;exact ⟨h,Nat.le_refl _⟩
def Keeps (f:List Tok->Option (BT Pay×List Tok)):Prop:=∀ ts T r,Ends ts->f ts=some (T,r)->Ends r/\r.length<=ts.length
theorem keeps_single {f:List Tok->Option (BT Pay×List Tok)} (hf:Keeps f) (op:Int):Keeps (singleF f op):=by
 intro ts T r h he
 unfold singleF at he
 cases h1:windowF op ts with
 | none=>simp [h1] at he
 | some x =>
  obtain ⟨⟨a,b⟩,t1⟩:=x
  obtain ⟨e1,l1⟩:=h.window h1
  simp only [h1] at he
  cases h2:f t1 with
  | none=>simp [h2] at he
  | some y =>
   obtain ⟨p,t2⟩:=y
   obtain ⟨e2,l2⟩:=hf _ _ _ e1 h2
   simp only [h2] at he
   injection he with he;injection he with _ he;subst he;exact ⟨e2,by omega⟩
theorem keeps_pair {f:List Tok->Option (BT Pay×List Tok)} (hf:Keeps f):Keeps (pairF f):=by
 intro ts T r h he
 unfold pairF at he
 cases h1:f ts with
 | none=>simp [h1] at he
 | some x =>
  obtain ⟨p,t1⟩:=x
  obtain ⟨e1,l1⟩:=hf _ _ _ h h1
  simp only [h1] at he
  split at he
  ·cases h2:windowF (takeF t1).1.sign (takeF t1).2 with
   | none=>simp [h2] at he
   | some y =>
    obtain ⟨⟨a,b⟩,t2⟩:=y
    obtain ⟨e2,l2⟩:=e1.take.1.window h2
    have l1':=e1.take.2.1
    simp only [h2] at he
    cases h3:f t2 with
    | none=>simp [h3] at he
    | some z =>
     obtain ⟨q,t3⟩:=z
     obtain ⟨e3,l3⟩:=hf _ _ _ e2 h3
     simp only [h3] at he
     cases h4:expectF 41 t3 with
     | none=>simp [h4] at he
     | some t4 =>
      obtain ⟨e4,l4⟩:=e3.expect h4
      simp only [h4] at he
      injection he with he;injection he with _ he;subst he;exact ⟨e4,by omega⟩
  ·cases he
theorem keeps_step {f:List Tok->Option (BT Pay×List Tok)} (hf:Keeps f):Keeps (stepF f):=by
 intro ts T r h he
 have ht:=h.take
 unfold stepF at he
 split at he
 ·cases hb:wordF (takeF ts).1 with
  | none=>simp [hb] at he
  | some x=>simp [hb] at he;obtain ⟨_,rfl⟩:=he;exact ⟨ht.1,ht.2.1⟩
 ·split at he
  ·have:=keeps_pair hf _ _ _ ht.1 he;exact ⟨this.1,by omega⟩
  ·split at he
   ·have:=keeps_single hf _ _ _ _ ht.1 he;exact ⟨this.1,by omega⟩
   ·cases he
theorem keeps_parse:∀ n,Keeps (parseF n)
 | 0=>fun _ _ _ _ he=>by cases he
 | n+1=>keeps_step (keeps_parse n)
end Go.Proofs.YtpbbmagjhkakgaaGreatDoor
namespace Go.Proofs.YtpbbmagjhkakgaaGreatDoor
open Go.RowKit Go.Deep
theorem ret_int {k:IntKind} {a b:Int} (h:a=b):Ending.returned (.int k a)=.returned (.int k b):=by rw [h]
structure Only (s:Nat) (w w':World):Prop where
 os:w'.os=w.os
 tape:w'.tape=w.tape
 output:w'.output=w.output
 size:w.heap.size<=w'.heap.size
 block:∀ k,k<w.heap.size->k≠s->w'.heap[k]? = w.heap[k]?
theorem Only.refl (s:Nat) (w:World):Only s w w:=⟨rfl,rfl,rfl,Nat.le_refl _,fun _ _ _=>rfl⟩
theorem Only.trans {s:Nat} {a b c:World} (h:Only s a b) (k:Only s b c):Only s a c :=
 ⟨k.os.trans h.os,k.tape.trans h.tape,k.output.trans h.output,Nat.le_trans h.size k.size,fun i hi hs=>(k.block i (Nat.lt_of_lt_of_le hi h.size) hs).trans (h.block i hi hs)⟩
theorem Only.of_below {s:Nat} {a b:World} (h:Below a.heap.size a b):Only s a b :=
 ⟨h.os,h.tape,h.output,h.size,fun k hk _=>h.block k hk⟩
theorem Only.below {s B:Nat} {a b:World} (h:Only s a b) (hB:B<=s) (hs:B<=a.heap.size):Below B a b :=
 ⟨h.os,h.tape,h.output,h.size,fun k hk=>h.block k (by omega) (by omega)⟩
theorem Only.drew {s:Nat} {a w:World} (h:Only s a w):Only s a w.drew:=⟨h.os,h.tape,h.output,h.size,h.block⟩
theorem Only.alloc {s:Nat} {a w:World} (h:Only s a w) (o:Obj):Only s a (w.alloc o) :=
 h.trans ⟨rfl,rfl,rfl,by simp,fun k hk _=>Below.heap_alloc _ _ _ hk⟩
theorem Only.setCell {s:Nat} {a w:World} (h:Only s a w) {p:Addr} (hp:p.block=s\/a.heap.size<=p.block) (u:Value):Only s a (w.setCell p u) :=
 ⟨h.os,h.tape,h.output,by simpa [World.setCell] using h.size,fun k hk hs=>(Below.heap_setCell _ _ _ _ (by omega)).trans (h.block k hk hs)⟩
theorem Only.heap {s:Nat} {a w:World} (h:Only s a w) {k:Nat} {o:Obj} (hk:a.heap[k]? = some o) (hs:k≠s):w.heap[k]? = some o:=by
 rw [h.block k (Array.getElem?_eq_some_iff.1 hk).1 hs];exact hk
theorem _root_.Go.RowKit.Below.heapOf {a w:World} (h:Below a.heap.size a w) {k:Nat} {o:Obj} (hk:a.heap[k]? = some o):w.heap[k]? = some o:=by
 rw [h.block k (Array.getElem?_eq_some_iff.1 hk).1];exact hk
theorem _root_.Go.RowKit.Below.al {a w:World} (h:Below a.heap.size a w) (o:Obj):Below a.heap.size a (w.alloc o):=h.alloc h.size o
theorem _root_.Go.RowKit.Below.tr {a b c:World} (h:Below a.heap.size a b) (k:Below b.heap.size b c):Below a.heap.size a c:=h.trans (k.mono h.size)
theorem Only.tb {s:Nat} {a b c:World} (h:Only s a b) (k:Below b.heap.size b c):Only s a c:=h.trans (Only.of_below k)
theorem heap_lt {w:World} {k:Nat} {o:Obj} (h:w.heap[k]? = some o):k<w.heap.size:=(Array.getElem?_eq_some_iff.1 h).1
theorem cell_at {w:World} {k i:Nat} {c:Array Value} {e:TypeId} {m:Nat×Nat} {v:Value} (h:w.heap[k]? = some (.cells c e m)) (hc:c[i]? = some v):w.cell? ⟨k,i,none⟩=some v:=by
 simp [World.cell?,h,hc]
theorem cell_lt {w:World} {p:Addr} {v:Value} (h:w.cell? p=some v):p.block<w.heap.size:=by
 rcases Nat.lt_or_ge p.block w.heap.size with h' | h'
 ·exact h'
 ·simp [World.cell?,Array.getElem?_eq_none h'] at h
def tokCells (t:Tok):List Value:=[.int .i32 t.sign,.int .i64 t.place,.string t.word]
def ToksAt (B:Nat) (w:World) (v:Value) (ts:List Tok):Prop :=
 ∃ tb off cap cs e m tail,v=.slice (some ⟨tb,off,none⟩) ts.length cap/\tb<B/\w.heap[tb]? = some (.cells cs e m)/\ts.length<=cap/\cap<=maxLen/\cs.toList.drop off=(ts.map tokCells).flatten++tail
theorem ToksAt.only {B s:Nat} {w w':World} {v:Value} {ts:List Tok} (h:ToksAt B w v ts) (ho:Only s w w') (hs:B<=s):ToksAt B w' v ts:=by
 obtain ⟨tb,off,cap,cs,e,m,tail,rfl,htb,hh,r⟩:=h
 exact ⟨tb,off,cap,cs,e,m,tail,rfl,htb,ho.heap hh (by omega),r⟩
def RdAt (T:TypeId) (rb:Nat) (w:World) (ts:List Tok):Prop:=∃ v,w.heap[rb]? = some (.cells #[v] T (0,0))/\ToksAt rb w v ts
theorem RdAt.lt {T:TypeId} {rb:Nat} {w:World} {ts:List Tok} (h:RdAt T rb w ts):rb<w.heap.size:=by
 obtain ⟨v,hv,_⟩:=h;exact heap_lt hv
theorem RdAt.below {T:TypeId} {rb:Nat} {w w':World} {ts:List Tok} (h:RdAt T rb w ts) (hb:Below w.heap.size w w'):RdAt T rb w' ts:=by
 obtain ⟨v,hv,ht⟩:=h
 exact ⟨v,Below.heapOf hb hv,ht.only (s:=rb) (Only.of_below hb) (Nat.le_refl _)⟩
theorem RdAt.alloc {T:TypeId} {rb:Nat} {w:World} {ts:List Tok} (h:RdAt T rb w ts) (o:Obj):RdAt T rb (w.alloc o) ts :=
 h.below ((Below.refl _ _).alloc (Nat.le_refl _) o)
theorem RdAt.setCell {T:TypeId} {rb:Nat} {w:World} {ts:List Tok} (h:RdAt T rb w ts) {p:Addr} (hp:rb<p.block) (u:Value):RdAt T rb (w.setCell p u) ts:=by
 obtain ⟨v,hv,ht⟩:=h
 exact ⟨v,by rw [Below.heap_setCell _ _ _ _ (by omega)];exact hv,ht.only (s:=p.block) ((Only.refl _ _).setCell (.inl rfl) _) (by omega)⟩
def SentAt (S:TypeId) (B:Nat) (w:World):BT Pay->Value->Prop
 | .nil,v=>v=.pointer none
 | .node _ _ a l r,v=>∃ b vl vr,v=.pointer (some ⟨b,0,none⟩)/\B<=b/\w.heap[b]? = some (.cells #[.int .i32 a.op,.string a.name,.int .i64 a.lo,.int .i64 a.hi,vl,vr] S (0,0))/\SentAt S B w l vl/\SentAt S B w r vr
theorem SentAt.heap {S:TypeId} {B:Nat} {w w':World} (hh:∀ k o,B<=k->w.heap[k]? = some o->w'.heap[k]? = some o):∀ {x:BT Pay} {v:Value},SentAt S B w x v->SentAt S B w' x v
 | .nil,_,h=>h
 | .node _ _ _ l r,_,⟨b,vl,vr,e,hb,hc,hl,hr⟩=>⟨b,vl,vr,e,hb,hh b _ hb hc,SentAt.heap hh (x:=l) hl,SentAt.heap hh (x:=r) hr⟩
theorem SentAt.only {S:TypeId} {B s:Nat} {w w':World} {x:BT Pay} {v:Value} (h:SentAt S B w x v) (ho:Only s w w') (hs:s<B):SentAt S B w' x v :=
 SentAt.heap (fun k o hk hc=>ho.heap hc (by omega)) h
theorem SentAt.below {S:TypeId} {B:Nat} {w w':World} {x:BT Pay} {v:Value} (h:SentAt S B w x v) (hb:Below w.heap.size w w'):SentAt S B w' x v :=
 SentAt.heap (fun _ _ _ hc=>Below.heapOf hb hc) h
theorem SentAt.low {S:TypeId} {B B':Nat} {w:World} (hB:B'<=B):∀ {x:BT Pay} {v:Value},SentAt S B w x v->SentAt S B' w x v
 | .nil,_,h=>h
 | .node _ _ _ l r,_,⟨b,vl,vr,e,hb,hc,hl,hr⟩=>⟨b,vl,vr,e,Nat.le_trans hB hb,hc,SentAt.low hB (x:=l) hl,SentAt.low hB (x:=r) hr⟩
theorem heap_new (w:World) (o:Obj) (k:Nat) (h:k=w.heap.size):(w.alloc o).heap[k]? = some o:=by
 subst h;show (w.heap.push o)[w.heap.size]? = some o;simp
theorem sent_mk {S:TypeId} {B b:Nat} {w:World} {op lo hi:Int} {name:ByteArray} {l r:BT Pay} {vl vr:Value} (hB:B<=b) (hh:w.heap[b]? = some (.cells #[.int .i32 op,.string name,.int .i64 lo,.int .i64 hi,vl,vr] S (0,0)))
  (hl:SentAt S B w l vl) (hr:SentAt S B w r vr):SentAt S B w (mk op name lo hi l r) (.pointer (some ⟨b,0,none⟩)):=⟨b,vl,vr,rfl,hB,hh,hl,hr⟩
theorem sent_ptr {S:TypeId} {B:Nat} {w:World} {x:BT Pay} {v:Value} (h:SentAt S B w x v):∃ vv,v=Value.pointer vv:=by
 cases x with
 | nil=>exact ⟨_,h⟩
 | node _ _ _ _ _=>obtain ⟨b,_,_,hb,_⟩:=h;exact ⟨_,hb⟩
theorem head_get (s:ByteArray) (h:0<s.size):s.data.toList.headD 0=s[0]:=by
 obtain ⟨⟨l⟩⟩:=s
 cases l with
 | nil=>simp [ByteArray.size] at h
 | cons a l=>rfl
theorem toks_head {B:Nat} {w:World} {v:Value} {t:Tok} {ts:List Tok} (h:ToksAt B w v (t::ts)) :
  ∃ tb off cap,v=.slice (some ⟨tb,off,none⟩) (ts.length+1) cap/\tb<B/\ts.length+1<=cap/\cap<=maxLen/\w.cell? ⟨tb,off,none⟩=some (.int .i32 t.sign)/\w.cell? ⟨tb,off+1,none⟩=some (.int .i64 t.place)/\w.cell? ⟨tb,off+2,none⟩=some (.string t.word)/\
   ∀ s w',Only s w w'->B<=s->ToksAt B w' (.slice (some ⟨tb,off+3,none⟩) ts.length (cap-1)) ts:=by
 obtain ⟨tb,off,cap,cs,e,m,tail,rfl,htb,hh,hc,hm,hd⟩:=h
 have g:∀ i v,i<3->(tokCells t)[i]? = some v->cs[off+i]? = some v:=by
  intro i v hi hv
  have h1:(cs.toList.drop off)[i]? = some v:=by
   rw [hd]
   simp only [List.map_cons,List.flatten_cons,List.append_assoc]
   rw [List.getElem?_append_left (by simp [tokCells];omega)]
   exact hv
  rw [List.getElem?_drop] at h1
  simpa using h1
 refine ⟨tb,off,cap,by simp,htb,by simpa using hc,hm,cell_at hh (g 0 _ (by omega) rfl),cell_at hh (g 1 _ (by omega) rfl),cell_at hh (g 2 _ (by omega) rfl),?_⟩
 intro s w' ho hs
 refine ⟨tb,off+3,cap-1,cs,e,m,tail,rfl,htb,ho.heap hh (by omega),by simp at hc;omega,by omega,?_⟩
 rw [<- List.drop_drop,hd]
 simp [tokCells]
end Go.Proofs.YtpbbmagjhkakgaaGreatDoor
namespace Go.Proofs.YtpbbmagjhkakgaaGreatDoor
def growF (s:ByteArray) (pos:Nat) (toks:List Tok):List Tok :=
 match toks.getLast? with
 | some t=>toks.dropLast++[⟨t.sign,t.place,s.extract t.place.toNat (pos+1)⟩]
 | none=>toks
theorem growF_snoc (s:ByteArray) (pos:Nat) (ts:List Tok) (t:Tok):growF s pos (ts++[t])=ts++[⟨t.sign,t.place,s.extract t.place.toNat (pos+1)⟩]:=by
 simp [growF]
def endTok (s:ByteArray):Tok:=⟨-1,s.size,ByteArray.empty⟩
def scanF (s:ByteArray):Nat->Nat->Int->List Tok->Option (List Tok)
 | 0,_,_,toks=>some (toks++[endTok s])
 | b+1,pos,last,toks =>
  if pos<s.size then
   if signF (Utf8.decode s pos).1 = -2 then none
   else if signF (Utf8.decode s pos).1=last/\joinsB (signF (Utf8.decode s pos).1)=true then
    scanF s b (pos+(Utf8.decode s pos).2) (signF (Utf8.decode s pos).1) (growF s pos toks)
   else if signF (Utf8.decode s pos).1=32 then scanF s b (pos+(Utf8.decode s pos).2) (signF (Utf8.decode s pos).1) toks
   else scanF s b (pos+(Utf8.decode s pos).2) (signF (Utf8.decode s pos).1) (toks++[⟨signF (Utf8.decode s pos).1,pos,Utf8.encode (Utf8.decode s pos).1⟩])
  else some (toks++[endTok s])
theorem scanF_end (s:ByteArray) (b pos:Nat) (last:Int) (toks:List Tok) (h:¬ pos<s.size):scanF s b pos last toks=some (toks++[endTok s]):=by
 cases b with
 | zero=>rfl
 | succ b=>simp [scanF,h]
structure Mid (pos:Nat) (last:Int) (toks:List Tok):Prop where
 each:∀ t,t∈toks->t.sign≠-1/\t.word.size<=300/\0<=t.place/\t.place<=pos
 len:toks.length<=pos
 join:joinsB last=true->toks≠[]
theorem Mid.start:Mid 0 32 []:=⟨by simp,by simp,by intro h;exact absurd h (by decide)⟩
theorem Mid.ends {pos:Nat} {last:Int} {toks:List Tok} (h:Mid pos last toks) (s:ByteArray):Ends (toks++[endTok s]) :=
 ⟨toks,endTok s,rfl,rfl,by show ByteArray.empty.size<=300;decide,fun t ht=>⟨(h.each t ht).1,(h.each t ht).2.1⟩⟩
theorem encode_le (r:Int):(Utf8.encode r).size<=4:=by
 unfold Utf8.encode
 simp only
 repeat' split
 all_goals simp [ByteArray.size]
theorem Mid.blank {pos p2:Nat} {last:Int} {toks:List Tok} (h:Mid pos last toks) (hp:pos<=p2):Mid p2 32 toks :=
 ⟨fun t ht=>by have:=h.each t ht;exact ⟨this.1,this.2.1,this.2.2.1,by omega⟩,by have:=h.len;omega,by intro h;exact absurd h (by decide)⟩
theorem Mid.more {pos p2:Nat} {last sg r:Int} {toks:List Tok} (h:Mid pos last toks) (hp:pos<p2) (hs:sg≠-1):Mid p2 sg (toks++[⟨sg,pos,Utf8.encode r⟩]):=by
 refine ⟨?_,by have:=h.len;simp;omega,by simp⟩
 intro t ht
 rcases List.mem_append.1 ht with ht | ht
 ·have:=h.each t ht;exact ⟨this.1,this.2.1,this.2.2.1,by omega⟩
 ·simp at ht;subst ht
  have:=encode_le r
  exact ⟨hs,by show (Utf8.encode r).size<=300;omega,by show (0:Int)<=pos;omega,by show (pos:Int)<=p2;omega⟩
theorem Mid.grow {pos p2:Nat} {last sg:Int} {ts:List Tok} {t:Tok} {s:ByteArray} (h:Mid pos last (ts++[t])) (hp:pos<p2) (hsz:s.size<=300) :
  Mid p2 sg (ts++[⟨t.sign,t.place,s.extract t.place.toNat (pos+1)⟩]):=by
 refine ⟨?_,by have:=h.len;simp at this ⊢;omega,by simp⟩
 intro x hx
 rcases List.mem_append.1 hx with hx | hx
 ·have:=h.each x (by simp [hx]);exact ⟨this.1,this.2.1,this.2.2.1,by omega⟩
 ·simp at hx;subst hx
  have:=h.each t (by simp)
  refine ⟨this.1,?_,this.2.2.1,by have:=this.2.2.2;show t.place<=(p2:Int);omega⟩
  show (s.extract t.place.toNat (pos+1)).size<=300
  rw [ByteArray.size_extract];omega
theorem signF_ne (r:Int):signF r≠-1\/signF r = -2:=by
 unfold signF
 repeat' split
 all_goals omega
theorem width_pos (s:ByteArray) (pos:Nat) (h:pos<s.size):1<=(Utf8.decode s pos).2:=by
 by_cases ha:(s[pos]'h).toNat<128
 ·rw [decode_ascii s pos h ha]
  exact Nat.le_refl _
 ·exact (decode_high s pos h (by omega)).2
theorem width_le (s:ByteArray) (pos:Nat):(Utf8.decode s pos).2<=4:=by
 unfold Utf8.decode
 simp only
 repeat' split
 all_goals simp
end Go.Proofs.YtpbbmagjhkakgaaGreatDoor
