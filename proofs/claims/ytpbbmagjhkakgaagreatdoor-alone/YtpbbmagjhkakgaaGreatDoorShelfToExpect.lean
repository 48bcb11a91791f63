import Derived.Test.YtpbbmagjhkakgaaGreatDoorPureToLfTape
import Derived.Shelf.Strings.Builder1
import Derived.Shelf.Small.Strs
import Derived.Shelf.Strings.BuilderF
import Derived.Shelf.Strings.BuilderK
import Derived.Shelf.Strings.BuilderRune
import Derived.Shelf.Strconv.Atoi
import Derived.Shelf.Strconv.Itoa0
import Derived.Shelf.Strconv.Itoa1
import Derived.Shelf.LaysM
import Derived.Shelf.Strconv.Itoa2
import Derived.Shelf.Strconv.Itoa3
import Derived.Shelf.Strconv.AtoiErrFast
import Derived.Shelf.Strconv.ParseIntEmpty
import Derived.Shelf.Strconv.AtoiFail
import Derived.Shelf.Strconv.Clone
import Derived.Shelf.Strconv.SyntaxError
import Derived.Shelf.LaysC
import Derived.Shelf.Strconv.ToError
import Derived.Shelf.Strconv.Lower
import Derived.Shelf.Strconv.ParseUint10
import Derived.Shelf.Strconv.ParseUint10Empty
import Derived.Shelf.Strconv.ParseUint10Any
import Derived.Shelf.Strconv.ParseInt10
import Derived.Shelf.Strconv.AtoiLong
import Derived.Shelf.Strconv.AtoiInnerAll
import Derived.Shelf.Strconv.RangeError
import Derived.Shelf.Strconv.ToErrorRange
import Derived.Shelf.Strconv.AtoiAll
import Derived.Shelf.Strconv.ErrVarAll
import Derived.Shelf.Strings.Prefix
import Derived.Shelf.Slices.Turned
import Derived.Test.YtpbbmagjhkakgaaGreatDoorProg
namespace Go.Proofs
open Go.Shelf
def Tryz.lays213_ren:Go.Shelf.Ren:=⟨fun | 213=>176 | 265=>197 | n=>n,fun | 9=>9 | 3=>3 | n=>n,fun | n=>n⟩
def Tryz.lays106_ren:Go.Shelf.Ren:=⟨fun | 106=>141 | 213=>176 | 265=>197 | n=>n,fun | 9=>9 | 3=>3 | n=>n,fun | n=>n⟩
theorem Tryz.lays106:Go.Proofs.Lays.n106 Tryz.prog Tryz.lays106_ren:={
 mixed:=by kernel_rfl
 f106:=Tryz.func141.trans (congrArg some (by kernel_rfl))
 f213:=Tryz.func176.trans (congrArg some (by kernel_rfl))
 f265:=Tryz.func197.trans (congrArg some (by kernel_rfl))
 t3:=Tryz.underlying3
 a3:=Tryz.isAgg3
 z3:=Tryz.sizeOf3
 v3:=Tryz.zeroValue3
 t9:=Tryz.underlying9
 a9:=Tryz.isAgg9
 z9:=Tryz.sizeOf9
 v9:=Tryz.zeroValue9 }
open Go.RowKit in
theorem Tryz.strings_Compare (a b:ByteArray) (w:World) :
  Calls Tryz.prog 141 #[.string a,.string b] w fun e w'=>e=.returned (.int .i64 (Lib.compareBytes a.data.toList b.data.toList))/\w'=w:=Any.strings_Compare Tryz.lays106 a b w
def Tryz.lays172_ren:Go.Shelf.Ren:=⟨fun | 172=>210 | 244=>216 | 245=>217 | 247=>223 | 279=>224 | 280=>225 | 281=>226 | 282=>227 | 287=>230 | 316=>172 | 171=>166 | 205=>231 | 321=>232 | 322=>233 | 243=>191 | 246=>206 | 283=>211 | 284=>212 | 285=>213 | 286=>214 | 129=>219 | 317=>218 | 318=>220 | 319=>221 | 320=>222 | 337=>228 | 338=>229 | n=>n,fun | 9=>9 | 3=>3 | 75=>89 | 76=>167 | 4=>4 | 5=>5 | 167=>343 | 37=>99 | 0=>0 | 85=>344 | 2=>2 | 168=>346 | 53=>332 | 175=>350 | 46=>200 | 210=>353 | 127=>224 | 145=>359 | 143=>357 | 21=>21 | 171=>331 | 173=>335 | 212=>340 | 51=>325 | 20=>20 | 213=>341 | 232=>354 | 233=>355 | 80=>93 | n=>n,fun | 15=>10 | 16=>11 | 17=>9 | 18=>12 | 19=>13 | n=>n⟩
def Tryz.laysM316_ren:Go.Shelf.Ren:=⟨fun | 316=>172 | n=>n,fun | 9=>9 | 3=>3 | 4=>4 | 37=>99 | 0=>0 | 127=>224 | 5=>5 | n=>n,fun | n=>n⟩
theorem Tryz.laysM316:Go.Proofs.LaysM.n316 Tryz.prog Tryz.laysM316_ren:={
 mixed:=by kernel_rfl
 f316:=Tryz.func172.trans (congrArg some (by kernel_rfl))
 t0:=Tryz.underlying0
 a0:=Tryz.isAgg0
 z0:=Tryz.sizeOf0
 v0:=Tryz.zeroValue0
 t3:=Tryz.underlying3
 a3:=Tryz.isAgg3
 z3:=Tryz.sizeOf3
 v3:=Tryz.zeroValue3
 t4:=Tryz.underlying4
 a4:=Tryz.isAgg4
 z4:=Tryz.sizeOf4
 v4:=Tryz.zeroValue4
 t9:=Tryz.underlying9
 a9:=Tryz.isAgg9
 z9:=Tryz.sizeOf9
 v9:=Tryz.zeroValue9
 t37:=Tryz.underlying99
 a37:=Tryz.isAgg99
 z37:=Tryz.sizeOf99
 v37:=Tryz.zeroValue99
 t127:=Tryz.underlying224
 a127:=Tryz.isAgg224
 z127:=Tryz.sizeOf224
 v127:=Tryz.zeroValue224
 t5:=Tryz.underlying5
 a5:=Tryz.isAgg5
 z5:=Tryz.sizeOf5
 v5:=Tryz.zeroValue5
 i0:=by kernel_rfl
 i3:=by kernel_rfl
 i4:=by kernel_rfl
 i5:=by kernel_rfl
 i9:=by kernel_rfl
 i37:=by kernel_rfl
 i127:=by kernel_rfl }
open Go.RowKit in
theorem Tryz.stringslite_Clone (s:ByteArray) (w:World) (hlim:s.size<=281474976710656) :
  Calls Tryz.prog 172 #[.string s] w fun e w'=>e=.returned (.string s)/\Below w.heap.size w w':=Any.stringslite_Clone Tryz.laysM316 s w hlim
def Tryz.laysC172_ren:Go.Shelf.Ren:=⟨fun | 172=>210 | 244=>216 | 245=>217 | 247=>223 | 279=>224 | 280=>225 | 281=>226 | 282=>227 | 287=>230 | 316=>172 | 171=>166 | 205=>231 | 321=>232 | 322=>233 | 243=>191 | 246=>206 | 283=>211 | 284=>212 | 285=>213 | 286=>214 | 129=>219 | 317=>218 | 318=>220 | 319=>221 | 320=>222 | 337=>228 | 338=>229 | n=>n,fun | 9=>9 | 3=>3 | 75=>89 | 76=>167 | 4=>4 | 5=>5 | 167=>343 | 37=>99 | 0=>0 | 85=>344 | 2=>2 | 168=>346 | 53=>332 | 175=>350 | 46=>200 | 210=>353 | 127=>224 | 145=>359 | 143=>357 | 21=>21 | 171=>331 | 173=>335 | 212=>340 | 51=>325 | 20=>20 | 213=>341 | 232=>354 | 233=>355 | 80=>93 | n=>n,fun | 15=>10 | 16=>11 | 17=>9 | 18=>12 | 19=>13 | n=>n⟩
theorem Tryz.laysC172:Go.Proofs.LaysC.n172 Tryz.prog Tryz.laysC172_ren:={
 mixed:=by kernel_rfl
 f129:=Tryz.func219.trans (congrArg some (by kernel_rfl))
 f171:=Tryz.func166.trans (congrArg some (by kernel_rfl))
 f172:=Tryz.func210.trans (congrArg some (by kernel_rfl))
 f205:=Tryz.func231.trans (congrArg some (by kernel_rfl))
 f243:=Tryz.func191.trans (congrArg some (by kernel_rfl))
 f244:=Tryz.func216.trans (congrArg some (by kernel_rfl))
 f245:=Tryz.func217.trans (congrArg some (by kernel_rfl))
 f246:=Tryz.func206.trans (congrArg some (by kernel_rfl))
 f247:=Tryz.func223.trans (congrArg some (by kernel_rfl))
 f279:=Tryz.func224.trans (congrArg some (by kernel_rfl))
 f280:=Tryz.func225.trans (congrArg some (by kernel_rfl))
 f281:=Tryz.func226.trans (congrArg some (by kernel_rfl))
 f282:=Tryz.func227.trans (congrArg some (by kernel_rfl))
 f283:=Tryz.func211.trans (congrArg some (by kernel_rfl))
 f284:=Tryz.func212.trans (congrArg some (by kernel_rfl))
 f285:=Tryz.func213.trans (congrArg some (by kernel_rfl))
 f286:=Tryz.func214.trans (congrArg some (by kernel_rfl))
 f287:=Tryz.func230.trans (congrArg some (by kernel_rfl))
 f316:=Tryz.func172.trans (congrArg some (by kernel_rfl))
 f317:=Tryz.func218.trans (congrArg some (by kernel_rfl))
 f318:=Tryz.func220.trans (congrArg some (by kernel_rfl))
 f319:=Tryz.func221.trans (congrArg some (by kernel_rfl))
 f320:=Tryz.func222.trans (congrArg some (by kernel_rfl))
 f321:=Tryz.func232.trans (congrArg some (by kernel_rfl))
 f322:=Tryz.func233.trans (congrArg some (by kernel_rfl))
 f337:=Tryz.func228.trans (congrArg some (by kernel_rfl))
 f338:=Tryz.func229.trans (congrArg some (by kernel_rfl))
 t0:=Tryz.underlying0
 a0:=Tryz.isAgg0
 z0:=Tryz.sizeOf0
 v0:=Tryz.zeroValue0
 t2:=Tryz.underlying2
 a2:=Tryz.isAgg2
 z2:=Tryz.sizeOf2
 v2:=Tryz.zeroValue2
 t3:=Tryz.underlying3
 a3:=Tryz.isAgg3
 z3:=Tryz.sizeOf3
 v3:=Tryz.zeroValue3
 t4:=Tryz.underlying4
 a4:=Tryz.isAgg4
 z4:=Tryz.sizeOf4
 v4:=Tryz.zeroValue4
 t5:=Tryz.underlying5
 a5:=Tryz.isAgg5
 z5:=Tryz.sizeOf5
 v5:=Tryz.zeroValue5
 t9:=Tryz.underlying9
 a9:=Tryz.isAgg9
 z9:=Tryz.sizeOf9
 v9:=Tryz.zeroValue9
 t20:=Tryz.underlying20
 a20:=Tryz.isAgg20
 z20:=Tryz.sizeOf20
 v20:=Tryz.zeroValue20
 t21:=Tryz.underlying21
 a21:=Tryz.isAgg21
 z21:=Tryz.sizeOf21
 v21:=Tryz.zeroValue21
 t37:=Tryz.underlying99
 a37:=Tryz.isAgg99
 z37:=Tryz.sizeOf99
 v37:=Tryz.zeroValue99
 t46:=Tryz.underlying200
 a46:=Tryz.isAgg200
 z46:=Tryz.sizeOf200
 v46:=Tryz.zeroValue200
 t51:=Tryz.underlying325
 a51:=Tryz.isAgg325
 z51:=Tryz.sizeOf325
 v51:=Tryz.zeroValue325
 t53:=Tryz.underlying332
 a53:=Tryz.isAgg332
 z53:=Tryz.sizeOf332
 v53:=Tryz.zeroValue332
 t75:=Tryz.underlying89
 a75:=Tryz.isAgg89
 z75:=Tryz.sizeOf89
 v75:=Tryz.zeroValue89
 t76:=Tryz.underlying167
 a76:=Tryz.isAgg167
 z76:=Tryz.sizeOf167
 v76:=Tryz.zeroValue167
 t85:=Tryz.underlying344
 a85:=Tryz.isAgg344
 z85:=Tryz.sizeOf344
 v85:=Tryz.zeroValue344
 t127:=Tryz.underlying224
 a127:=Tryz.isAgg224
 z127:=Tryz.sizeOf224
 v127:=Tryz.zeroValue224
 t143:=Tryz.underlying357
 a143:=Tryz.isAgg357
 z143:=Tryz.sizeOf357
 v143:=Tryz.zeroValue357
 t145:=Tryz.underlying359
 a145:=Tryz.isAgg359
 z145:=Tryz.sizeOf359
 v145:=Tryz.zeroValue359
 t167:=Tryz.underlying343
 a167:=Tryz.isAgg343
 z167:=Tryz.sizeOf343
 v167:=Tryz.zeroValue343
 t168:=Tryz.underlying346
 a168:=Tryz.isAgg346
 z168:=Tryz.sizeOf346
 v168:=Tryz.zeroValue346
 t171:=Tryz.underlying331
 a171:=Tryz.isAgg331
 z171:=Tryz.sizeOf331
 v171:=Tryz.zeroValue331
 t173:=Tryz.underlying335
 a173:=Tryz.isAgg335
 z173:=Tryz.sizeOf335
 v173:=Tryz.zeroValue335
 t175:=Tryz.underlying350
 a175:=Tryz.isAgg350
 z175:=Tryz.sizeOf350
 v175:=Tryz.zeroValue350
 t210:=Tryz.underlying353
 a210:=Tryz.isAgg353
 z210:=Tryz.sizeOf353
 v210:=Tryz.zeroValue353
 t212:=Tryz.underlying340
 a212:=Tryz.isAgg340
 z212:=Tryz.sizeOf340
 v212:=Tryz.zeroValue340
 t213:=Tryz.underlying341
 a213:=Tryz.isAgg341
 z213:=Tryz.sizeOf341
 t232:=Tryz.underlying354
 a232:=Tryz.isAgg354
 z232:=Tryz.sizeOf354
 v232:=Tryz.zeroValue354
 t233:=Tryz.underlying355
 a233:=Tryz.isAgg355
 z233:=Tryz.sizeOf355
 v233:=Tryz.zeroValue355
 g15:=by kernel_rfl
 g16:=by kernel_rfl
 g17:=by kernel_rfl
 g18:=by kernel_rfl
 g19:=by kernel_rfl
 t80:=Tryz.underlying93
 a80:=Tryz.isAgg93
 z80:=Tryz.sizeOf93
 v80:=Tryz.zeroValue93
 i0:=by kernel_rfl
 i2:=by kernel_rfl
 i3:=by kernel_rfl
 i4:=by kernel_rfl
 i5:=by kernel_rfl
 i9:=by kernel_rfl
 i20:=by kernel_rfl
 i21:=by kernel_rfl
 i37:=by kernel_rfl
 i46:=by kernel_rfl
 i51:=by kernel_rfl
 i53:=by kernel_rfl
 i75:=by kernel_rfl
 i76:=by kernel_rfl
 i80:=by kernel_rfl
 i85:=by kernel_rfl
 i127:=by kernel_rfl
 i143:=by kernel_rfl
 i145:=by kernel_rfl
 i167:=by kernel_rfl
 i168:=by kernel_rfl
 i171:=by kernel_rfl
 i173:=by kernel_rfl
 i175:=by kernel_rfl
 i210:=by kernel_rfl
 i212:=by kernel_rfl
 i232:=by kernel_rfl
 i233:=by kernel_rfl
 m15:=by kernel_rfl
 m16:=by kernel_rfl
 m17:=by kernel_rfl
 m18:=by kernel_rfl
 m19:=by kernel_rfl
 c0:=by kernel_rfl
 c2:=by kernel_rfl
 c3:=by kernel_rfl
 c4:=by kernel_rfl
 c5:=by kernel_rfl
 c9:=by kernel_rfl
 c20:=by kernel_rfl
 c21:=by kernel_rfl
 c37:=by kernel_rfl
 c46:=by kernel_rfl
 c51:=by kernel_rfl
 c53:=by kernel_rfl
 c75:=by kernel_rfl
 c76:=by kernel_rfl
 c80:=by kernel_rfl
 c85:=by kernel_rfl
 c127:=by kernel_rfl
 c143:=by kernel_rfl
 c145:=by kernel_rfl
 c167:=by kernel_rfl
 c168:=by kernel_rfl
 c171:=by kernel_rfl
 c173:=by kernel_rfl
 c175:=by kernel_rfl
 c210:=by kernel_rfl
 c212:=by kernel_rfl
 c213:=by kernel_rfl
 c232:=by kernel_rfl
 c233:=by kernel_rfl }
open Go.RowKit in
theorem Tryz.strconv_Atoi_ok (s:ByteArray) (hmax:s.size<=9223372036854775806) (v:Int) (h:Lib.atoiAll s.data.toList=.ok v) (w:World) :
  Calls Tryz.prog 210 #[.string s] w fun e w'=>e=.returned (.tuple #[.int .i64 v,.nilIface])/\(w'=w\/∃ t,w'=Lib.bytesWorld w 5 t):=Any.strconv_Atoi_ok Tryz.laysC172 s hmax v h w
open Go.RowKit in
theorem Tryz.strconv_Atoi_syntax (s:ByteArray) (hlim:s.size<=281474976710656) (h:Lib.atoiAll s.data.toList=.«syntax») (ev:Value) (w:World) (hv:w.cell? ⟨10,0,none⟩=some ev) (js:ev=.nilIface\/∃ te pe,ev=.iface te pe) :
  Calls Tryz.prog 210 #[.string s] w fun e w'=>∃ N,e=.returned (.tuple #[.int .i64 (0),.iface 346 (.pointer (some ⟨N,0,none⟩))])/\w.heap.size<=N/\w'.heap[N]? = some (.cells #[.string ⟨#[65,116,111,105]⟩,.string s,ev] 353 (0,0))/\Below w.heap.size w w':=Any.strconv_Atoi_syntax Tryz.laysC172 s hlim h ev w hv js
open Go.RowKit in
theorem Tryz.strconv_Atoi_range (s:ByteArray) (hlim:s.size<=281474976710656) (h:Lib.atoiAll s.data.toList=.range) (ev:Value) (w:World) (hv:w.cell? ⟨11,0,none⟩=some ev) (js:ev=.nilIface\/∃ te pe,ev=.iface te pe) :
  Calls Tryz.prog 210 #[.string s] w fun e w'=>∃ N,e=.returned (.tuple #[.int .i64 (Lib.atoiSat s.data.toList),.iface 346 (.pointer (some ⟨N,0,none⟩))])/\w.heap.size<=N/\w'.heap[N]? = some (.cells #[.string ⟨#[65,116,111,105]⟩,.string s,ev] 353 (0,0))/\Below w.heap.size w w':=Any.strconv_Atoi_range Tryz.laysC172 s hlim h ev w hv js
def Tryz.lays206_ren:Go.Shelf.Ren:=⟨fun | 206=>203 | n=>n,fun | 9=>9 | 4=>4 | 3=>3 | n=>n,fun | n=>n⟩
def Tryz.lays99_ren:Go.Shelf.Ren:=⟨fun | 99=>185 | 206=>203 | n=>n,fun | 9=>9 | 4=>4 | 3=>3 | n=>n,fun | n=>n⟩
theorem Tryz.lays99:Go.Proofs.Lays.n99 Tryz.prog Tryz.lays99_ren:={
 mixed:=by kernel_rfl
 f99:=Tryz.func185.trans (congrArg some (by kernel_rfl))
 f206:=Tryz.func203.trans (congrArg some (by kernel_rfl))
 t3:=Tryz.underlying3
 a3:=Tryz.isAgg3
 z3:=Tryz.sizeOf3
 v3:=Tryz.zeroValue3
 t4:=Tryz.underlying4
 a4:=Tryz.isAgg4
 z4:=Tryz.sizeOf4
 v4:=Tryz.zeroValue4
 t9:=Tryz.underlying9
 a9:=Tryz.isAgg9
 z9:=Tryz.sizeOf9
 v9:=Tryz.zeroValue9 }
open Go.RowKit Go.Lib in
theorem Tryz.strings_HasPrefix (s p:ByteArray) (w:World) :
  Calls Tryz.prog 185 #[.string s,.string p] w fun e w'=>e=.returned (.bool (Lib.hasPrefix s.data.toList p.data.toList))/\w'=w:=Any.strings_HasPrefix Tryz.lays99 s p w
def Tryz.lays110_ren:Go.Shelf.Ren:=⟨fun | 110=>168 | 109=>192 | n=>n,fun | 31=>31 | 9=>9 | 4=>4 | 3=>3 | 0=>0 | n=>n,fun | n=>n⟩
theorem Tryz.lays110:Go.Proofs.Lays.n110 Tryz.prog Tryz.lays110_ren:={
 mixed:=by kernel_rfl
 f109:=Tryz.func192.trans (congrArg some (by kernel_rfl))
 f110:=Tryz.func168.trans (congrArg some (by kernel_rfl))
 t0:=Tryz.underlying0
 a0:=Tryz.isAgg0
 z0:=Tryz.sizeOf0
 v0:=Tryz.zeroValue0
 t3:=Tryz.underlying3
 a3:=Tryz.isAgg3
 z3:=Tryz.sizeOf3
 v3:=Tryz.zeroValue3
 t4:=Tryz.underlying4
 a4:=Tryz.isAgg4
 z4:=Tryz.sizeOf4
 v4:=Tryz.zeroValue4
 t9:=Tryz.underlying9
 a9:=Tryz.isAgg9
 z9:=Tryz.sizeOf9
 v9:=Tryz.zeroValue9
 t31:=Tryz.underlying31
 a31:=Tryz.isAgg31
 z31:=Tryz.sizeOf31
 v31:=Tryz.zeroValue31 }
open Go.Lib in
theorem Tryz.slices_Contains_string (b off n c:Nat) (zs:List ByteArray) (x:ByteArray) (w:World) (hz:n<=zs.length) (hbig:n<=9223372036854775807) (hc:∀ j,j<zs.length->w.cell? ⟨b,off+j,none⟩=some (.string (zs.getD j ByteArray.empty))) :
  Calls Tryz.prog 168 #[.slice (some ⟨b,off,none⟩) n c,.string x] w fun e w'=>e=.returned (.bool (Lib.containsS (zs.take n) x))/\w'=w:=Any.slices_Contains_string Tryz.lays110 b off n c zs x w hz hbig hc
open Go.Lib in
theorem Tryz.slices_Contains_string_empty (a:Option Addr) (c:Nat) (x:ByteArray) (w:World) :
  Calls Tryz.prog 168 #[.slice a 0 c,.string x] w fun e w'=>e=.returned (.bool false)/\w'=w:=Any.slices_Contains_string_empty Tryz.lays110 a c x w
end Go.Proofs
namespace Go.Proofs.YtpbbmagjhkakgaaGreatDoor
open Go.RowKit
set_option maxHeartbeats 400000 in
theorem takeF_end (rb tb off n cap:Nat) (pl:Int) (wd:ByteArray) (w:World) (hr:w.heap[rb]? = some (.cells #[.slice (some ⟨tb,off,none⟩) (n+1) cap] 208 (0,0)))
  (h0:w.cell? ⟨tb,off,none⟩=some (.int .i32 (-1))) (h1:w.cell? ⟨tb,off+1,none⟩=some (.int .i64 pl)) (h2:w.cell? ⟨tb,off+2,none⟩=some (.string wd)) :
  Calls Tryz.prog 154 #[.pointer (some ⟨rb,0,none⟩)] w fun e w'=>e=.returned (.agg #[.int .i32 (-1),.int .i64 pl,.string wd])/\Below w.heap.size w w':=by
 have hc:w.cell? ⟨rb,0,none⟩=some (.slice (some ⟨tb,off,none⟩) (n+1) cap):=ae hr rfl
 have hrl:rb<w.heap.size:=aw hr
 have htl:tb<w.heap.size:=i_ h0
 go_enter Tryz.func154,Tryz.ntmps154
 go_wp2
 refine bodyPost_ret (v:=.agg #[.int .i32 (-1),.int .i64 pl,.string wd]) (by simp [results,Tryz.results154,go_sem]) rfl ⟨rfl,?_⟩
 exact ((Below.refl _ _).alloc (Nat.le_refl _) _).alloc (by simp) _
set_option maxHeartbeats 400000 in
theorem take_go (rb tb off n cap:Nat) (sg pl:Int) (wd:ByteArray) (w:World) (hr:w.heap[rb]? = some (.cells #[.slice (some ⟨tb,off,none⟩) (n+1) cap] 208 (0,0)))
  (h0:w.cell? ⟨tb,off,none⟩=some (.int .i32 sg)) (h1:w.cell? ⟨tb,off+1,none⟩=some (.int .i64 pl)) (h2:w.cell? ⟨tb,off+2,none⟩=some (.string wd)) (hsg:(sg != -1)=true) (cW:n+1<=cap) (_hmax:cap<=maxLen) (hn:1<=n) :
  Calls Tryz.prog 154 #[.pointer (some ⟨rb,0,none⟩)] w fun e w'=>e=.returned (.agg #[.int .i32 sg,.int .i64 pl,.string wd])/\Only rb w w'/\w'.heap[rb]? = some (.cells #[.slice (some ⟨tb,off+3,none⟩) n (cap-1)] 208 (0,0)):=by
 have hc:w.cell? ⟨rb,0,none⟩=some (.slice (some ⟨tb,off,none⟩) (n+1) cap):=ae hr rfl
 have hrl:rb<w.heap.size:=aw hr
 have htl:tb<w.heap.size:=i_ h0
 have hfz:w.frozen? ⟨rb,0,none⟩=false:=Lib.frozen_of_heap hr 0
 unfold maxLen at _hmax
 go_enter Tryz.func154,Tryz.ntmps154
 go_wp2
 refine bodyPost_ret (v:=.agg #[.int .i32 sg,.int .i64 pl,.string wd]) (by simp [results,Tryz.results154,go_sem]) rfl ⟨rfl,?_,?_⟩
 ·exact (((Only.refl rb w).setCell (p:=⟨rb,0,none⟩) (.inl rfl) _).alloc _).alloc _
 ·rw [Lib.alloc_old _ _ _ (by simp [World.setCell];omega),Lib.alloc_old _ _ _ (by simp [World.setCell];omega)]
  simp [World.setCell,Array.getElem?_modify,hr]
theorem ky (rb:Nat) (ts:List Tok) (w:World) (h:gj 208 rb w ts) (he:Ends ts) :
  Calls Tryz.prog 154 #[.pointer (some ⟨rb,0,none⟩)] w fun e w'=>e=.returned (.agg #[.int .i32 (aH ts).1.sign,.int .i64 (aH ts).1.place,.string (aH ts).1.word])/\Only rb w w'/\gj 208 rb w' (aH ts).2:=by
 have hl:=he.take
 obtain ⟨v,hv,ht⟩:=h
 match ts,he,hl,ht with
 | [],⟨f,e,hfe,_⟩,_,_=>exact absurd hfe (by simp)
 | t::r,he,hl,ht =>
  obtain ⟨tb,off,cap,rfl,htb,cW,hmax,h0,h1,h2,hrest⟩:=toks_head ht
  by_cases hs:t.sign = -1
  ·rw [hs] at h0
   refine (takeF_end rb tb off r.length cap t.place t.word w hv h0 h1 h2).mono ?_
   rintro e w' ⟨rfl,hb⟩
   have e1:aH (t::r)=(t,t::r):=by simp [aH,hs]
   rw [e1,hs]
   exact ⟨rfl,Only.aL hb,_,Below.aE hb hv,ht.only (Only.aL hb) (Nat.le_refl _)⟩
  ·have e1:aH (t::r)=(t,r):=by simp [aH,hs]
   have hn:1<=r.length:=by
    obtain ⟨f,e,hfe,hes,_⟩:=he
    cases f with
    | nil=>simp at hfe;exact absurd (hfe.1▸hes) hs
    | cons a f=>simp at hfe;rw [hfe.2];simp
   refine (take_go rb tb off r.length cap t.sign t.place t.word w hv h0 h1 h2 (by simp [hs]) cW hmax hn).mono ?_
   rintro e w' ⟨rfl,ho,hr'⟩
   rw [e1]
   exact ⟨rfl,ho,_,hr',hrest rb w' ho (Nat.le_refl _)⟩
set_option maxHeartbeats 400000 in
theorem expect_yes (rb:Nat) (ts:List Tok) (sg:Int) (why:ByteArray) (w:World) (h:gj 208 rb w ts) (he:Ends ts) (hs:(aH ts).1.sign=sg) :
  Calls Tryz.prog 115 #[.pointer (some ⟨rb,0,none⟩),.int .i32 sg,.string why] w fun e w'=>e=.returned .nilIface/\Only rb w w'/\gj 208 rb w' (aH ts).2:=by
 subst hs
 go_enter Tryz.func115,Tryz.ntmps115
 go_wp2_with fail
 refine (ky rb ts _ h he).mono ?_
 rintro e w1 ⟨rfl,ho,hr⟩
 go_wp2
 go_ret
 exact ⟨rfl,ho.alloc _,hr.alloc _⟩
set_option maxHeartbeats 400000 in
theorem expect_no (rb:Nat) (ts:List Tok) (sg:Int) (why:ByteArray) (w:World) (h:gj 208 rb w ts) (he:Ends ts) (hs:((aH ts).1.sign != sg)=true) :
  Calls Tryz.prog 115 #[.pointer (some ⟨rb,0,none⟩),.int .i32 sg,.string why] w fun e w'=>∃ fa,e=.returned (.iface 201 (.pointer (some fa)))/\Only rb w w':=by
 go_enter Tryz.func115,Tryz.ntmps115
 go_wp2_with fail
 refine (ky rb ts _ h he).mono ?_
 rintro e w1 ⟨rfl,ho,hr⟩
 go_wp2
 go_ret
 exact ⟨_,rfl,(ho.alloc _).alloc _⟩
theorem clone_any (s:ByteArray) (w:World) (hlim:s.size<=281474976710656) :
  Calls Tryz.prog 136 #[.string s] w fun e w'=>e=.returned (.string s)/\Below w.heap.size w w':=by
 go_enter Tryz.func136,Tryz.ntmps136
 go_wp2_with fail
 refine (Tryz.stringslite_Clone s w hlim).mono ?_
 rintro e w1 ⟨rfl,hb⟩
 go_wp2
 go_ret
 exact ⟨rfl,hb⟩
theorem mA (rb:Nat) (ts:List Tok) (sg:Int) (why:ByteArray) (w:World) (h:gj 208 rb w ts) (he:Ends ts) :
  Calls Tryz.prog 115 #[.pointer (some ⟨rb,0,none⟩),.int .i32 sg,.string why] w fun e w'=>Only rb w w'/\((∃ r,bm sg ts=some r/\e=.returned .nilIface/\gj 208 rb w' r)
   \/(bm sg ts=none/\∃ fa,e=.returned (.iface 201 (.pointer (some fa))))):=by
 by_cases hs:(aH ts).1.sign=sg
 ·refine (expect_yes rb ts sg why w h he hs).mono ?_
  rintro e w' ⟨rfl,ho,hr⟩
  exact ⟨ho,.inl ⟨_,by unfold bm;rw [if_pos hs],rfl,hr⟩⟩
 ·refine (expect_no rb ts sg why w h he (by simp [hs])).mono ?_
  rintro e w' ⟨fa,rfl,ho⟩
  exact ⟨ho,.inr ⟨by unfold bm;rw [if_neg hs],fa,rfl⟩⟩
set_option maxHeartbeats 400000 in
theorem word_true (sg pl:Int) (w:World) :
  Calls Tryz.prog 155 #[.agg #[.int .i32 sg,.int .i64 pl,.string vU]] w fun e w'=>∃ v,e=.returned (.tuple #[v,.nilIface])/\aC 143 w.heap.size w' (mk 116 ByteArray.empty 0 0 .nil .nil) v/\Below w.heap.size w w':=by
 unfold vU
 go_enter Tryz.func155,Tryz.ntmps155
 go_wp2
 go_ret2
 exact ⟨_,rfl,lA (Nat.le_succ _) (aB _ _ _ (by simp)) rfl rfl,((Below.refl _ _).alloc (Nat.le_refl _) _).alloc (by simp) _⟩
set_option maxHeartbeats 400000 in
theorem word_long (sg pl:Int) (wd:ByteArray) (w:World) (ht:(wd.toList==[116,114,117,101])=false) (hl:8<wd.size) (hm:wd.size<=maxLen) :
  Calls Tryz.prog 155 #[.agg #[.int .i32 sg,.int .i64 pl,.string wd]] w fun e w'=>∃ fa,e=.returned (.tuple #[.pointer none,.iface 201 (.pointer (some fa))])/\Below w.heap.size w w':=by
 unfold maxLen at hm
 go_enter Tryz.func155,Tryz.ntmps155
 go_wp2
 go_region
 all_goals go_wp2
 all_goals go_ret2
 all_goals exact ⟨_,rfl,by repeat (first | exact Below.refl _ _ | refine Below.drew ?_ | refine Below.al ?_ _)⟩
set_option maxHeartbeats 400000 in
theorem word_name (sg pl:Int) (wd:ByteArray) (w:World) (ht:(wd.toList==[116,114,117,101])=false) (hl:wd.size<=8) :
  Calls Tryz.prog 155 #[.agg #[.int .i32 sg,.int .i64 pl,.string wd]] w fun e w'=>∃ v,e=.returned (.tuple #[v,.nilIface])/\aC 143 w.heap.size w' (mk 97 wd 0 0 .nil .nil) v/\Below w.heap.size w w':=by
 go_enter Tryz.func155,Tryz.ntmps155
 go_wp2_with fail
 refine (clone_any wd _ (by omega)).mono ?_
 rintro e w1 ⟨rfl,hb⟩
 go_wp2
 go_ret2
 have hz:w.heap.size+1<=w1.heap.size:=by have:=hb.size;simpa using this
 refine ⟨_,rfl,lA (by omega) (aB _ _ _ rfl) rfl rfl,?_⟩
 exact (((Below.refl _ _).alloc (Nat.le_refl _) _).trans (hb.mono (by simp))).alloc (by omega) _
structure eh (w:World):Prop where
 syn:∃ te pe,w.cell? ⟨10,0,none⟩=some (.iface te pe)
 rng:∃ te pe,w.cell? ⟨11,0,none⟩=some (.iface te pe)
theorem atoi_any (s:ByteArray) (hs:s.size<=281474976710656) (w:World) (hg:eh w) :
  Calls Tryz.prog 210 #[.string s] w fun e w'=>Below w.heap.size w w'/\((∃ v,Lib.atoiAll s.data.toList=.ok v/\e=.returned (.tuple #[.int .i64 v,.nilIface]))\/((∀ v,Lib.atoiAll s.data.toList≠.ok v)/\∃ v te pe,e=.returned (.tuple #[.int .i64 v,.iface te pe]))):=by
 obtain ⟨⟨t1,p1,h1⟩,⟨t2,p2,h2⟩⟩:=hg
 rcases h:Lib.atoiAll s.data.toList with v | _ | _
 ·refine (Tryz.strconv_Atoi_ok s (by omega) v h w).mono ?_
  rintro e w' ⟨rfl,hw⟩
  refine ⟨?_,.inl ⟨v,rfl,rfl⟩⟩
  rcases hw with rfl | ⟨t,rfl⟩
  ·exact Below.refl _ _
  ·exact Lib.bytesWorld_below w _ t
 ·refine (Tryz.strconv_Atoi_syntax s hs h _ w h1 (.inr ⟨_,_,rfl⟩)).mono ?_
  rintro e w' ⟨n,rfl,_,_,hb⟩
  exact ⟨hb,.inr ⟨fun v hv=>by (cases hv),_,_,_,rfl⟩⟩
 ·refine (Tryz.strconv_Atoi_range s hs h _ w h2 (.inr ⟨_,_,rfl⟩)).mono ?_
  rintro e w' ⟨n,rfl,_,_,hb⟩
  exact ⟨hb,.inr ⟨fun v hv=>by (cases hv),_,_,_,rfl⟩⟩
theorem eh.only {s:Nat} {w w':World} (h:eh w) (ho:Only s w w') (hs:14<=s):eh w':=by
 obtain ⟨⟨t1,p1,h1⟩,⟨t2,p2,h2⟩⟩:=h
 have c:∀ k,k<14->k<w.heap.size->w'.cell? ⟨k,0,none⟩=w.cell? ⟨k,0,none⟩:=fun k hk hl=>World.cell?_of_block (w:=w) (a:=⟨k,0,none⟩) (ho.block k hl (by omega))
 exact ⟨⟨t1,p1,by rw [c 10 (by omega) (i_ h1)];exact h1⟩,⟨t2,p2,by rw [c 11 (by omega) (i_ h2)];exact h2⟩⟩
theorem eh.below {w w':World} (h:eh w) (hb:Below w.heap.size w w'):eh w':=h.only (s:=14) (Only.aL hb) (Nat.le_refl _)
set_option maxHeartbeats 400000 in
theorem number_no (rb:Nat) (ts:List Tok) (w:World) (h:gj 208 rb w ts) (he:Ends ts) (hs:((aH ts).1.sign != 48)=true) :
  Calls Tryz.prog 204 #[.pointer (some ⟨rb,0,none⟩)] w fun e w'=>∃ fa,e=.returned (.tuple #[.int .i64 0,.iface 201 (.pointer (some fa))])/\Only rb w w':=by
 go_enter Tryz.func204,Tryz.ntmps204
 go_wp2_with fail
 refine (ky rb ts _ h he).mono ?_
 rintro e w1 ⟨rfl,ho,hr⟩
 go_wp2_with fail
 go_region
 all_goals go_wp2
 all_goals go_ret2
 all_goals exact ⟨_,rfl,by repeat (first | exact ho | refine Only.drew ?_ | refine Only.alloc ?_ _)⟩
set_option maxHeartbeats 800000 in
theorem number_zero (rb:Nat) (rest:List Tok) (pl:Int) (wd:ByteArray) (w:World)
  (rE:Calls Tryz.prog 154 #[.pointer (some ⟨rb,0,none⟩)] w fun e w'=>e=.returned (.agg #[.int .i32 48,.int .i64 pl,.string wd])/\Only rb w w'/\gj 208 rb w' rest)
  (hm:wd.size<=281474976710656) (hz:0<wd.size) (h1:1<wd.size) (h0:(((wd[0]'hz).toNat:Int)==48)=true) :
  Calls Tryz.prog 204 #[.pointer (some ⟨rb,0,none⟩)] w fun e w'=>Only rb w w'/\∃ fa,e=.returned (.tuple #[.int .i64 0,.iface 201 (.pointer (some fa))]):=by
 go_enter Tryz.func204,Tryz.ntmps204
 go_wp2_with fail
 refine rE.mono ?_
 rintro e w1 ⟨rfl,ho,hr⟩
 go_wp2_with fail
 go_region
 all_goals go_wp2
 all_goals go_ret2
 all_goals exact ⟨by repeat (first | exact ho | refine Only.drew ?_ | refine Only.alloc ?_ _),_,rfl⟩
set_option maxHeartbeats 800000 in
theorem number_conv (rb:Nat) (rest:List Tok) (pl:Int) (wd:ByteArray) (w:World)
  (rE:Calls Tryz.prog 154 #[.pointer (some ⟨rb,0,none⟩)] w fun e w'=>e=.returned (.agg #[.int .i32 48,.int .i64 pl,.string wd])/\Only rb w w'/\gj 208 rb w' rest)
  (hg:eh w) (qx:14<=rb) (hm:wd.size<=281474976710656) (h0:¬ 1<wd.size\/∃ hz:0<wd.size,1<wd.size/\(((wd[0]'hz).toNat:Int)==48)=false) :
  Calls Tryz.prog 204 #[.pointer (some ⟨rb,0,none⟩)] w fun e w'=>Only rb w w'/\((∃ v,okNum (Lib.atoiAll wd.data.toList)=some v/\e=.returned (.tuple #[.int .i64 v,.nilIface])/\gj 208 rb w' rest)\/(okNum (Lib.atoiAll wd.data.toList)=none/\∃ fa,e=.returned (.tuple #[.int .i64 0,.iface 201 (.pointer (some fa))]))):=by
 rcases h0 with h1 | ⟨hz,h1,h0⟩
 all_goals
  go_enter Tryz.func204,Tryz.ntmps204
  go_wp2_with fail
  refine rE.mono ?_
  rintro e w1 ⟨rfl,ho,hr⟩
  go_wp2_with fail
  have hg1:eh (w1.alloc (.cells #[.int .i32 48,.int .i64 pl,.string wd] 260)):=(hg.only ho qx).below ((Below.refl _ _).al _)
  refine (atoi_any wd hm _ hg1).mono ?_
  rintro e w2 ⟨hb,⟨v,hv,rfl⟩ | ⟨hv,v,te,pe,rfl⟩⟩
  ·have jE:Only rb w w2:=(ho.alloc _).tb hb
   have u7:gj 208 rb w2 rest:=(hr.alloc _).below hb
   have hN:Hid (okNum (Lib.atoiAll wd.data.toList)=if 1000000<v then none else some v):=by rw [hv];rfl
   have q1:w2.cell? ⟨w1.heap.size,1,none⟩=some (.int .i64 pl):=by rw [hb.cell (p:=⟨w1.heap.size,1,none⟩) (by simp)];simp
   clear hv hb
   by_cases hgt:1000000<v
   ·go_wp2_with fail
    go_region
    all_goals go_wp2
    all_goals go_ret2
    all_goals exact ⟨by repeat (first | exact jE | refine Only.drew ?_ | refine Only.alloc ?_ _),.inr ⟨by rw [hN.out,if_pos (by omega)],_,rfl⟩⟩
   ·go_wp2_with fail
    go_ret2
    exact ⟨jE,.inl ⟨v,by rw [hN.out,if_neg (by omega)],rfl,u7⟩⟩
  ·have jE:Only rb w w2:=(ho.alloc _).tb hb
   have hN:Hid (okNum (Lib.atoiAll wd.data.toList)=none):=okNum_none hv
   have q1:w2.cell? ⟨w1.heap.size,1,none⟩=some (.int .i64 pl):=by rw [hb.cell (p:=⟨w1.heap.size,1,none⟩) (by simp)];simp
   clear hv hb
   go_wp2_with fail
   go_region
   all_goals go_wp2
   all_goals go_ret2
   all_goals exact ⟨by repeat (first | exact jE | refine Only.drew ?_ | refine Only.alloc ?_ _),.inr ⟨hN.out,_,rfl⟩⟩
theorem number_some (rb:Nat) (ts:List Tok) (w:World) (h:gj 208 rb w ts) (he:Ends ts) (hs:(aH ts).1.sign=48) (hg:eh w) (qx:14<=rb) (hm:(aH ts).1.word.size<=281474976710656) :
  Calls Tryz.prog 204 #[.pointer (some ⟨rb,0,none⟩)] w fun e w'=>Only rb w w'/\((∃ v,vq (aH ts).1.word=some v/\e=.returned (.tuple #[.int .i64 v,.nilIface])/\gj 208 rb w' (aH ts).2)\/(vq (aH ts).1.word=none/\∃ fa,e=.returned (.tuple #[.int .i64 0,.iface 201 (.pointer (some fa))]))):=by
 have rE:=ky rb ts w h he
 rw [hs] at rE
 generalize (aH ts).1.word=wd at *
 generalize (aH ts).1.place=pl at *
 by_cases h1:1<wd.size
 ·have hz:0<wd.size:=by omega
  have hh:=head_get wd hz
  by_cases h0:wd.data.toList.headD 0=48
  ·refine (number_zero rb _ pl wd w rE hm hz h1 ?_).mono ?_
   ·rw [hh] at h0;rw [h0];decide
   ·rintro e w' ⟨ho,hf⟩
    exact ⟨ho,.inr ⟨by unfold vq;rw [if_pos ⟨h1,h0⟩],hf⟩⟩
  ·refine (number_conv rb _ pl wd w rE hg qx hm (.inr ⟨hz,h1,?_⟩)).mono ?_
   ·rw [hh] at h0
    rw [beq_eq_false_iff_ne]
    intro h
    apply h0
    apply UInt8.toNat_inj.1
    show wd[0].toNat=48
    omega
   ·have e1:vq wd=okNum (Lib.atoiAll wd.data.toList):=by unfold vq;rw [if_neg (by intro h;exact h0 h.2)]
    rw [e1]
    exact fun _ _ h=>h
 ·refine (number_conv rb _ pl wd w rE hg qx hm (.inl h1)).mono ?_
  have e1:vq wd=okNum (Lib.atoiAll wd.data.toList):=by unfold vq;rw [if_neg (by intro h;exact h1 h.1)]
  rw [e1]
  exact fun _ _ h=>h
theorem fU (rb:Nat) (ts:List Tok) (w:World) (h:gj 208 rb w ts) (he:Ends ts) (hg:eh w) (qx:14<=rb) :
  Calls Tryz.prog 204 #[.pointer (some ⟨rb,0,none⟩)] w fun e w'=>Only rb w w'/\((∃ v r,p8 ts=some (v,r)/\e=.returned (.tuple #[.int .i64 v,.nilIface])/\gj 208 rb w' r)
   \/(p8 ts=none/\∃ fa,e=.returned (.tuple #[.int .i64 0,.iface 201 (.pointer (some fa))]))):=by
 by_cases hs:(aH ts).1.sign=48
 ·refine (number_some rb ts w h he hs hg qx (by have:=he.word;omega)).mono ?_
  rintro e w' ⟨ho,⟨v,hv,rfl,hr⟩ | ⟨hv,fa,rfl⟩⟩
  ·exact ⟨ho,.inl ⟨v,_,by unfold p8;rw [if_pos hs,hv];rfl,rfl,hr⟩⟩
  ·exact ⟨ho,.inr ⟨by unfold p8;rw [if_pos hs,hv];rfl,fa,rfl⟩⟩
 ·refine (number_no rb ts w h he (by simp [hs])).mono ?_
  rintro e w' ⟨fa,rfl,ho⟩
  exact ⟨ho,.inr ⟨by unfold p8;rw [if_neg hs],fa,rfl⟩⟩
end Go.Proofs.YtpbbmagjhkakgaaGreatDoor
