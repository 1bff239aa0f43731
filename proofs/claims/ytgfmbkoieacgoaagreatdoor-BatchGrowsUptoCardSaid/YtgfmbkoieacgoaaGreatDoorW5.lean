/- 5. -/
import Derived.Shelf.Strconv.Itoa3
import Derived.Shelf.Strconv.AtoiAll
import Derived.Shelf.Strings.Shaped
import Derived.Shelf.Strings.SplitShaped
import Derived.Lib.AppendIntMem
import Derived.Test.YtgfmbkoieacgoaaGreatDoorW2
namespace Go.Proofs
open Go.Shelf
def Tryz.laysM171_ren:Go.Shelf.Ren:=⟨fun | 171=>50 | 243=>106 | 246=>164 | 283=>203 | 284=>204 | 285=>205 | 286=>206 | 129=>161 | 317=>233 | 318=>234 | 319=>235 | 320=>236 | 337=>259 | 338=>260 | n=>n,fun | 3=>3 | 9=>9 | 2=>2 | 4=>4 | 171=>221 | 0=>0 | 53=>145 | 37=>43 | 5=>5 | 173=>223 | 212=>244 | 51=>188 | 20=>20 | 213=>245 | 46=>140 | 232=>278 | 233=>279 | n=>n,fun | 17=>0 | 18=>5 | 19=>6 | n=>n⟩
theorem Tryz.laysM171:Go.Proofs.LaysM.n171 prog Tryz.laysM171_ren:={
 mixed:=by kernel_rfl
 f129:=func161.trans (congrArg some (by kernel_rfl))
 f171:=func50.trans (congrArg some (by kernel_rfl))
 f243:=func106.trans (congrArg some (by kernel_rfl))
 f246:=func164.trans (congrArg some (by kernel_rfl))
 f283:=func203.trans (congrArg some (by kernel_rfl))
 f284:=func204.trans (congrArg some (by kernel_rfl))
 f285:=func205.trans (congrArg some (by kernel_rfl))
 f286:=func206.trans (congrArg some (by kernel_rfl))
 f317:=func233.trans (congrArg some (by kernel_rfl))
 f318:=func234.trans (congrArg some (by kernel_rfl))
 f319:=func235.trans (congrArg some (by kernel_rfl))
 f320:=func236.trans (congrArg some (by kernel_rfl))
 f337:=func259.trans (congrArg some (by kernel_rfl))
 f338:=func260.trans (congrArg some (by kernel_rfl))
 t0:=underlying0
 a0:=Tryz.isAgg0
 z0:=sizeOf0
 v0:=Tryz.zeroValue0
 t2:=underlying2
 a2:=Tryz.isAgg2
 z2:=sizeOf2
 v2:=Tryz.zeroValue2
 t3:=underlying3
 a3:=Tryz.isAgg3
 z3:=sizeOf3
 v3:=Tryz.zeroValue3
 t4:=underlying4
 a4:=Tryz.isAgg4
 z4:=sizeOf4
 v4:=Tryz.zeroValue4
 t5:=underlying5
 a5:=Tryz.isAgg5
 z5:=sizeOf5
 v5:=Tryz.zeroValue5
 t9:=underlying9
 a9:=Tryz.isAgg9
 z9:=sizeOf9
 v9:=Tryz.zeroValue9
 t20:=underlying20
 a20:=Tryz.isAgg20
 z20:=sizeOf20
 v20:=Tryz.zeroValue20
 t37:=underlying43
 a37:=Tryz.isAgg43
 z37:=sizeOf43
 v37:=Tryz.zeroValue43
 t46:=underlying140
 a46:=Tryz.isAgg140
 z46:=sizeOf140
 v46:=Tryz.zeroValue140
 t51:=underlying188
 a51:=Tryz.isAgg188
 z51:=sizeOf188
 v51:=Tryz.zeroValue188
 t53:=underlying145
 a53:=Tryz.isAgg145
 z53:=sizeOf145
 v53:=Tryz.zeroValue145
 t171:=underlying221
 a171:=Tryz.isAgg221
 z171:=sizeOf221
 v171:=Tryz.zeroValue221
 t173:=underlying223
 a173:=Tryz.isAgg223
 z173:=sizeOf223
 v173:=Tryz.zeroValue223
 t212:=underlying244
 a212:=Tryz.isAgg244
 z212:=sizeOf244
 v212:=Tryz.zeroValue244
 t213:=underlying245
 a213:=Tryz.isAgg245
 z213:=sizeOf245
 t232:=underlying278
 a232:=Tryz.isAgg278
 z232:=sizeOf278
 v232:=Tryz.zeroValue278
 t233:=underlying279
 a233:=Tryz.isAgg279
 z233:=sizeOf279
 v233:=Tryz.zeroValue279
 g17:=by kernel_rfl
 g18:=by kernel_rfl
 g19:=by kernel_rfl
 i0:=by kernel_rfl
 i2:=by kernel_rfl
 i3:=by kernel_rfl
 i4:=by kernel_rfl
 i5:=by kernel_rfl
 i9:=by kernel_rfl
 i20:=by kernel_rfl
 i37:=by kernel_rfl
 i46:=by kernel_rfl
 i51:=by kernel_rfl
 i53:=by kernel_rfl
 i171:=by kernel_rfl
 i173:=by kernel_rfl
 i212:=by kernel_rfl
 i232:=by kernel_rfl
 i233:=by kernel_rfl
 m17:=by kernel_rfl
 m18:=by kernel_rfl
 m19:=by kernel_rfl }
open Go.RowKit Go.Sort Go.Lib in
theorem Tryz.strconv_Itoa (n : Int) (b : -9223372036854775808 ≤ n) (c : n ≤ 9223372036854775807) (w : World) (a : Lib.TabIs prog w "internal/strconv.uint64pow10" .u64 Lib.pow10Tab) :
  Calls prog 50 #[.int .i64 n] w λe w'=>e=.returned (.string ⟨(Lib.itoa n).toArray⟩)/\∃k d,w'=grow (w.drewN k) d:=Any.strconv_Itoa Tryz.laysM171 n b c w a
def Tryz.laysM316_ren:Go.Shelf.Ren:=⟨fun | 316=>209 | n=>n,fun | 9=>9 | 3=>3 | 4=>4 | 37=>43 | 0=>0 | 127=>246 | 5=>5 | n=>n,fun | n=>n⟩
theorem Tryz.laysM316:Go.Proofs.LaysM.n316 prog Tryz.laysM316_ren:={
 mixed:=by kernel_rfl
 f316:=func209.trans (congrArg some (by kernel_rfl))
 t0:=underlying0
 a0:=Tryz.isAgg0
 z0:=sizeOf0
 v0:=Tryz.zeroValue0
 t3:=underlying3
 a3:=Tryz.isAgg3
 z3:=sizeOf3
 v3:=Tryz.zeroValue3
 t4:=underlying4
 a4:=Tryz.isAgg4
 z4:=sizeOf4
 v4:=Tryz.zeroValue4
 t9:=underlying9
 a9:=Tryz.isAgg9
 z9:=sizeOf9
 v9:=Tryz.zeroValue9
 t37:=underlying43
 a37:=Tryz.isAgg43
 z37:=sizeOf43
 v37:=Tryz.zeroValue43
 t127:=underlying246
 a127:=Tryz.isAgg246
 z127:=sizeOf246
 v127:=Tryz.zeroValue246
 t5:=underlying5
 a5:=Tryz.isAgg5
 z5:=sizeOf5
 v5:=Tryz.zeroValue5
 i0:=by kernel_rfl
 i3:=by kernel_rfl
 i4:=by kernel_rfl
 i5:=by kernel_rfl
 i9:=by kernel_rfl
 i37:=by kernel_rfl
 i127:=by kernel_rfl }
open Go.RowKit in
theorem Tryz.stringslite_Clone(s:ByteArray)(w:World)(a:s.size<=281474976710656):
  Calls prog 209 #[.string s] w λe w'=>e=.returned (.string s)/\Below w.heap.size w w':=Any.stringslite_Clone Tryz.laysM316 s w a
def Tryz.laysC172_ren:Go.Shelf.Ren:=⟨fun | 172=>170 | 244=>214 | 245=>215 | 247=>244 | 279=>245 | 280=>246 | 281=>247 | 282=>248 | 287=>264 | 316=>209 | 171=>50 | 205=>265 | 321=>277 | 322=>278 | 243=>106 | 246=>164 | 283=>203 | 284=>204 | 285=>205 | 286=>206 | 129=>161 | 317=>233 | 318=>234 | 319=>235 | 320=>236 | 337=>259 | 338=>260 | n=>n,fun | 9=>9 | 3=>3 | 75=>194 | 76=>195 | 4=>4 | 5=>5 | 167=>250 | 37=>43 | 0=>0 | 85=>251 | 2=>2 | 168=>253 | 53=>145 | 175=>264 | 46=>140 | 210=>267 | 127=>246 | 145=>287 | 143=>285 | 21=>21 | 171=>221 | 173=>223 | 212=>244 | 51=>188 | 20=>20 | 213=>245 | 232=>278 | 233=>279 | 80=>304 | n=>n,fun | 15=>2 | 16=>3 | 17=>0 | 18=>5 | 19=>6 | n=>n⟩
theorem Tryz.laysC172:Go.Proofs.LaysC.n172 prog Tryz.laysC172_ren:={
 mixed:=by kernel_rfl
 f129:=func161.trans (congrArg some (by kernel_rfl))
 f171:=func50.trans (congrArg some (by kernel_rfl))
 f172:=func170.trans (congrArg some (by kernel_rfl))
 f205:=func265.trans (congrArg some (by kernel_rfl))
 f243:=func106.trans (congrArg some (by kernel_rfl))
 f244:=func214.trans (congrArg some (by kernel_rfl))
 f245:=func215.trans (congrArg some (by kernel_rfl))
 f246:=func164.trans (congrArg some (by kernel_rfl))
 f247:=func244.trans (congrArg some (by kernel_rfl))
 f279:=func245.trans (congrArg some (by kernel_rfl))
 f280:=func246.trans (congrArg some (by kernel_rfl))
 f281:=func247.trans (congrArg some (by kernel_rfl))
 f282:=func248.trans (congrArg some (by kernel_rfl))
 f283:=func203.trans (congrArg some (by kernel_rfl))
 f284:=func204.trans (congrArg some (by kernel_rfl))
 f285:=func205.trans (congrArg some (by kernel_rfl))
 f286:=func206.trans (congrArg some (by kernel_rfl))
 f287:=func264.trans (congrArg some (by kernel_rfl))
 f316:=func209.trans (congrArg some (by kernel_rfl))
 f317:=func233.trans (congrArg some (by kernel_rfl))
 f318:=func234.trans (congrArg some (by kernel_rfl))
 f319:=func235.trans (congrArg some (by kernel_rfl))
 f320:=func236.trans (congrArg some (by kernel_rfl))
 f321:=func277.trans (congrArg some (by kernel_rfl))
 f322:=func278.trans (congrArg some (by kernel_rfl))
 f337:=func259.trans (congrArg some (by kernel_rfl))
 f338:=func260.trans (congrArg some (by kernel_rfl))
 t0:=underlying0
 a0:=Tryz.isAgg0
 z0:=sizeOf0
 v0:=Tryz.zeroValue0
 t2:=underlying2
 a2:=Tryz.isAgg2
 z2:=sizeOf2
 v2:=Tryz.zeroValue2
 t3:=underlying3
 a3:=Tryz.isAgg3
 z3:=sizeOf3
 v3:=Tryz.zeroValue3
 t4:=underlying4
 a4:=Tryz.isAgg4
 z4:=sizeOf4
 v4:=Tryz.zeroValue4
 t5:=underlying5
 a5:=Tryz.isAgg5
 z5:=sizeOf5
 v5:=Tryz.zeroValue5
 t9:=underlying9
 a9:=Tryz.isAgg9
 z9:=sizeOf9
 v9:=Tryz.zeroValue9
 t20:=underlying20
 a20:=Tryz.isAgg20
 z20:=sizeOf20
 v20:=Tryz.zeroValue20
 t21:=underlying21
 a21:=Tryz.isAgg21
 z21:=sizeOf21
 v21:=Tryz.zeroValue21
 t37:=underlying43
 a37:=Tryz.isAgg43
 z37:=sizeOf43
 v37:=Tryz.zeroValue43
 t46:=underlying140
 a46:=Tryz.isAgg140
 z46:=sizeOf140
 v46:=Tryz.zeroValue140
 t51:=underlying188
 a51:=Tryz.isAgg188
 z51:=sizeOf188
 v51:=Tryz.zeroValue188
 t53:=underlying145
 a53:=Tryz.isAgg145
 z53:=sizeOf145
 v53:=Tryz.zeroValue145
 t75:=underlying194
 a75:=Tryz.isAgg194
 z75:=sizeOf194
 v75:=Tryz.zeroValue194
 t76:=underlying195
 a76:=Tryz.isAgg195
 z76:=sizeOf195
 v76:=Tryz.zeroValue195
 t85:=underlying251
 a85:=Tryz.isAgg251
 z85:=sizeOf251
 v85:=Tryz.zeroValue251
 t127:=underlying246
 a127:=Tryz.isAgg246
 z127:=sizeOf246
 v127:=Tryz.zeroValue246
 t143:=underlying285
 a143:=Tryz.isAgg285
 z143:=sizeOf285
 v143:=Tryz.zeroValue285
 t145:=underlying287
 a145:=Tryz.isAgg287
 z145:=sizeOf287
 v145:=Tryz.zeroValue287
 t167:=underlying250
 a167:=Tryz.isAgg250
 z167:=sizeOf250
 v167:=Tryz.zeroValue250
 t168:=underlying253
 a168:=Tryz.isAgg253
 z168:=sizeOf253
 v168:=Tryz.zeroValue253
 t171:=underlying221
 a171:=Tryz.isAgg221
 z171:=sizeOf221
 v171:=Tryz.zeroValue221
 t173:=underlying223
 a173:=Tryz.isAgg223
 z173:=sizeOf223
 v173:=Tryz.zeroValue223
 t175:=underlying264
 a175:=Tryz.isAgg264
 z175:=sizeOf264
 v175:=Tryz.zeroValue264
 t210:=underlying267
 a210:=Tryz.isAgg267
 z210:=sizeOf267
 v210:=Tryz.zeroValue267
 t212:=underlying244
 a212:=Tryz.isAgg244
 z212:=sizeOf244
 v212:=Tryz.zeroValue244
 t213:=underlying245
 a213:=Tryz.isAgg245
 z213:=sizeOf245
 t232:=underlying278
 a232:=Tryz.isAgg278
 z232:=sizeOf278
 v232:=Tryz.zeroValue278
 t233:=underlying279
 a233:=Tryz.isAgg279
 z233:=sizeOf279
 v233:=Tryz.zeroValue279
 g15:=by kernel_rfl
 g16:=by kernel_rfl
 g17:=by kernel_rfl
 g18:=by kernel_rfl
 g19:=by kernel_rfl
 t80:=underlying304
 a80:=Tryz.isAgg304
 z80:=sizeOf304
 v80:=Tryz.zeroValue304
 i0:=by kernel_rfl
 i2:=by kernel_rfl
 i3:=by kernel_rfl
 i4:=by kernel_rfl
 i5:=by kernel_rfl
 i9:=by kernel_rfl
 i20:=by kernel_rfl
 i21:=by kernel_rfl
 i37:=by kernel_rfl
 i46:=by kernel_rfl
 i51:=by kernel_rfl
 i53:=by kernel_rfl
 i75:=by kernel_rfl
 i76:=by kernel_rfl
 i80:=by kernel_rfl
 i85:=by kernel_rfl
 i127:=by kernel_rfl
 i143:=by kernel_rfl
 i145:=by kernel_rfl
 i167:=by kernel_rfl
 i168:=by kernel_rfl
 i171:=by kernel_rfl
 i173:=by kernel_rfl
 i175:=by kernel_rfl
 i210:=by kernel_rfl
 i212:=by kernel_rfl
 i232:=by kernel_rfl
 i233:=by kernel_rfl
 m15:=by kernel_rfl
 m16:=by kernel_rfl
 m17:=by kernel_rfl
 m18:=by kernel_rfl
 m19:=by kernel_rfl
 c0:=by kernel_rfl
 c2:=by kernel_rfl
 c3:=by kernel_rfl
 c4:=by kernel_rfl
 c5:=by kernel_rfl
 c9:=by kernel_rfl
 c20:=by kernel_rfl
 c21:=by kernel_rfl
 c37:=by kernel_rfl
 c46:=by kernel_rfl
 c51:=by kernel_rfl
 c53:=by kernel_rfl
 c75:=by kernel_rfl
 c76:=by kernel_rfl
 c80:=by kernel_rfl
 c85:=by kernel_rfl
 c127:=by kernel_rfl
 c143:=by kernel_rfl
 c145:=by kernel_rfl
 c167:=by kernel_rfl
 c168:=by kernel_rfl
 c171:=by kernel_rfl
 c173:=by kernel_rfl
 c175:=by kernel_rfl
 c210:=by kernel_rfl
 c212:=by kernel_rfl
 c213:=by kernel_rfl
 c232:=by kernel_rfl
 c233:=by kernel_rfl }
open Go.RowKit in
theorem Tryz.strconv_Atoi_ok(s:ByteArray)(a:s.size<=9223372036854775806)(v:Int)(h:Lib.atoiAll s.data.toList=.ok v)(w:World):
  Calls prog 170 #[.string s] w λe w'=>e=.returned (.tuple #[.int .i64 v,.nilIface])/\(w'=w∨∃t,w'=Lib.bytesWorld w 5 t):=Any.strconv_Atoi_ok Tryz.laysC172 s a v h w
open Go.RowKit in
theorem Tryz.strconv_Atoi_syntax(s:ByteArray)(a:s.size<=281474976710656)(h:Lib.atoiAll s.data.toList=.«syntax»)(b:Value)(w:World)(d:w.cell? ⟨2,0,none⟩=some b)(c:b=.nilIface∨∃j k,b=.iface j k):
  Calls prog 170 #[.string s] w λe w'=>∃N,e=.returned (.tuple #[.int .i64 (0),.iface 253 (.pointer (some ⟨N,0,none⟩))])/\w.heap.size<=N/\w'.heap[N]? =some (.cells #[.string ⟨#[65,116,111,105]⟩,.string s,b] 267 (0,0))/\Below w.heap.size w w':=Any.strconv_Atoi_syntax Tryz.laysC172 s a h b w d c
open Go.RowKit in
theorem Tryz.strconv_Atoi_range(s:ByteArray)(a:s.size<=281474976710656)(h:Lib.atoiAll s.data.toList=.range)(b:Value)(w:World)(d:w.cell? ⟨3,0,none⟩=some b)(c:b=.nilIface∨∃j k,b=.iface j k):
  Calls prog 170 #[.string s] w λe w'=>∃N,e=.returned (.tuple #[.int .i64 (Lib.atoiSat s.data.toList),.iface 253 (.pointer (some ⟨N,0,none⟩))])/\w.heap.size<=N/\w'.heap[N]? =some (.cells #[.string ⟨#[65,116,111,105]⟩,.string s,b] 267 (0,0))/\Below w.heap.size w w':=Any.strconv_Atoi_range Tryz.laysC172 s a h b w d c
def Tryz.lays145_ren:Go.Shelf.Ren:=⟨fun | 145=>111 | 220=>168 | 219=>210 | 217=>237 | 225=>238 | 224=>239 | 267=>240 | 266=>261 | 314=>262 | n=>n,fun | 9=>9 | 4=>4 | 59=>149 | 3=>3 | 5=>5 | 46=>140 | 146=>262 | 51=>188 | n=>n,fun | 1=>1 | n=>n⟩
theorem Tryz.lays145:Go.Proofs.Lays.n145 prog Tryz.lays145_ren:={
 mixed:=by kernel_rfl
 f145:=func111.trans (congrArg some (by kernel_rfl))
 f217:=func237.trans (congrArg some (by kernel_rfl))
 f219:=func210.trans (congrArg some (by kernel_rfl))
 f220:=func168.trans (congrArg some (by kernel_rfl))
 f224:=func239.trans (congrArg some (by kernel_rfl))
 f225:=func238.trans (congrArg some (by kernel_rfl))
 f266:=func261.trans (congrArg some (by kernel_rfl))
 f267:=func240.trans (congrArg some (by kernel_rfl))
 f314:=func262.trans (congrArg some (by kernel_rfl))
 t3:=underlying3
 a3:=Tryz.isAgg3
 z3:=sizeOf3
 v3:=Tryz.zeroValue3
 t4:=underlying4
 a4:=Tryz.isAgg4
 z4:=sizeOf4
 v4:=Tryz.zeroValue4
 t5:=underlying5
 a5:=Tryz.isAgg5
 z5:=sizeOf5
 v5:=Tryz.zeroValue5
 t9:=underlying9
 a9:=Tryz.isAgg9
 z9:=sizeOf9
 v9:=Tryz.zeroValue9
 t46:=underlying140
 a46:=Tryz.isAgg140
 z46:=sizeOf140
 v46:=Tryz.zeroValue140
 t51:=underlying188
 a51:=Tryz.isAgg188
 z51:=sizeOf188
 v51:=Tryz.zeroValue188
 t59:=underlying149
 a59:=Tryz.isAgg149
 z59:=sizeOf149
 v59:=Tryz.zeroValue149
 t146:=underlying262
 a146:=Tryz.isAgg262
 z146:=sizeOf262
 v146:=Tryz.zeroValue262
 g1:=by kernel_rfl }
open Go.RowKit Go.Lib in
theorem Tryz.strings_Cut(s a:ByteArray)(m:Int)(w:World)(b:s.size<4294967281)(c:w.cell? ⟨1,0,none⟩=some (.int .i64 m)):
  Calls prog 111 #[.string s,.string a] w λe w'=>e=.returned (.tuple #[.string ⟨(Lib.cut s.data.toList a.data.toList).1.toArray⟩,.string ⟨(Lib.cut s.data.toList a.data.toList).2.1.toArray⟩,.bool (Lib.cut s.data.toList a.data.toList).2.2])/\∃n,w'=w.drewN n:=Any.strings_Cut Tryz.lays145 s a m w b c
open Go.RowKit Go.Lib in
def Tryz.lays147_ren:Go.Shelf.Ren:=⟨fun | 147=>112 | 221=>169 | 268=>211 | 138=>212 | 143=>213 | 195=>241 | 197=>242 | 218=>243 | 219=>210 | 260=>263 | 217=>237 | 225=>238 | 224=>239 | 267=>240 | 266=>261 | 314=>262 | n=>n,fun | 9=>9 | 3=>3 | 31=>95 | 4=>4 | 0=>0 | 105=>248 | 21=>21 | 5=>5 | 46=>140 | 119=>280 | 139=>283 | 138=>282 | 146=>262 | 51=>188 | n=>n,fun | 1=>1 | 3=>7 | 4=>8 | n=>n⟩
theorem Tryz.lays147:Go.Proofs.Lays.n147 prog Tryz.lays147_ren:={
 mixed:=by kernel_rfl
 f138:=func212.trans (congrArg some (by kernel_rfl))
 f143:=func213.trans (congrArg some (by kernel_rfl))
 f147:=func112.trans (congrArg some (by kernel_rfl))
 f195:=func241.trans (congrArg some (by kernel_rfl))
 f197:=func242.trans (congrArg some (by kernel_rfl))
 f217:=func237.trans (congrArg some (by kernel_rfl))
 f218:=func243.trans (congrArg some (by kernel_rfl))
 f219:=func210.trans (congrArg some (by kernel_rfl))
 f221:=func169.trans (congrArg some (by kernel_rfl))
 f224:=func239.trans (congrArg some (by kernel_rfl))
 f225:=func238.trans (congrArg some (by kernel_rfl))
 f260:=func263.trans (congrArg some (by kernel_rfl))
 f266:=func261.trans (congrArg some (by kernel_rfl))
 f267:=func240.trans (congrArg some (by kernel_rfl))
 f268:=func211.trans (congrArg some (by kernel_rfl))
 f314:=func262.trans (congrArg some (by kernel_rfl))
 t0:=underlying0
 a0:=Tryz.isAgg0
 z0:=sizeOf0
 v0:=Tryz.zeroValue0
 t3:=underlying3
 a3:=Tryz.isAgg3
 z3:=sizeOf3
 v3:=Tryz.zeroValue3
 t4:=underlying4
 a4:=Tryz.isAgg4
 z4:=sizeOf4
 v4:=Tryz.zeroValue4
 t5:=underlying5
 a5:=Tryz.isAgg5
 z5:=sizeOf5
 v5:=Tryz.zeroValue5
 t9:=underlying9
 a9:=Tryz.isAgg9
 z9:=sizeOf9
 v9:=Tryz.zeroValue9
 t21:=underlying21
 a21:=Tryz.isAgg21
 z21:=sizeOf21
 v21:=Tryz.zeroValue21
 t31:=underlying95
 a31:=Tryz.isAgg95
 z31:=sizeOf95
 v31:=Tryz.zeroValue95
 t46:=underlying140
 a46:=Tryz.isAgg140
 z46:=sizeOf140
 v46:=Tryz.zeroValue140
 t51:=underlying188
 a51:=Tryz.isAgg188
 z51:=sizeOf188
 v51:=Tryz.zeroValue188
 t105:=underlying248
 a105:=Tryz.isAgg248
 z105:=sizeOf248
 v105:=Tryz.zeroValue248
 t119:=underlying280
 a119:=Tryz.isAgg280
 z119:=sizeOf280
 t138:=underlying282
 a138:=Tryz.isAgg282
 z138:=sizeOf282
 v138:=Tryz.zeroValue282
 t139:=underlying283
 a139:=Tryz.isAgg283
 z139:=sizeOf283
 v139:=Tryz.zeroValue283
 t146:=underlying262
 a146:=Tryz.isAgg262
 z146:=sizeOf262
 v146:=Tryz.zeroValue262
 g1:=by kernel_rfl
 g3:=by kernel_rfl
 g4:=by kernel_rfl }
open Go.RowKit Go.Lib in
theorem Tryz.strings_SplitN(s a:ByteArray)(n:Nat)(m:Int)(w:World)(c:s.size<4294967281)(d:w.cell? ⟨1,0,none⟩=some (.int .i64 m))(h:1<=a.size)(j:1<=n)(b:n<=9223372036854775807):
  Calls prog 112 #[.string s,.string a,.int .i64 n] w λe w'=>
   e=.returned (.slice (some ⟨w.heap.size,0,none⟩) (Lib.splitB a 0 (min n (s.size+1)-1) s).length (min n (s.size+1)))/\w'=w.alloc (.cells (Lib.cellsOf (Lib.splitB a 0 (min n (s.size+1)-1) s) (min n (s.size+1))) 9):=Any.strings_SplitN Tryz.lays147 (by kernel_rfl) s a n m w c d h j b
end Go.Proofs
namespace Go.Proofs.YtgfmbkoieacgoaaGreatDoor
open Go Go.RowKit Go.Proofs.Tryz
def PowTab (w : World) : Prop := Lib.TabIs prog w "internal/strconv.uint64pow10" .u64 Lib.pow10Tab
theorem WG : prog.globalNamed "internal/strconv.uint64pow10" = some 0 := by kernel_rfl
theorem WP {w : World} {b : Array Value} (h : w.var? prog "internal/strconv.uint64pow10" = some b) : 0 < w.heap.size := by
 unfold World.var? at h;rw[WG]at h;simp only[Option.bind_some]at h;rcases bg1 0 w.heap.size with a | a
 ·exact a
 rw[Array.getElem?_eq_none a]at h;cases h
theorem PowTab.lt {w:World}(h:PowTab w):0<w.heap.size:=WP h
theorem PowTab.from {B:Nat} {w w':World}(h:PowTab w)(a:Below B w w')(b:0<B):PowTab w':=by
 unfold PowTab Lib.TabIs World.var? at h ⊢;rw[WG]at h ⊢;simp only[Option.bind_some]at h ⊢;rw[a.block _ b];exact h
theorem PowTab.below {w w':World}(h:PowTab w)(a:Bw w w'):PowTab w':=h.from a h.lt
def itoaL(n:Int):List (BitVec 8):=(Lib.itoa n).map λc=>BitVec.ofNat 8 c.toNat
theorem Sv_itoa(n:Int):(Value.string ⟨(Lib.itoa n).toArray⟩)=Sv (itoaL n):=by
 unfold Sv
 congr 1
 have:(strOf (itoaL n)).data=(Lib.itoa n).toArray:=by
  rw[strOf_data,itoaL,List.map_map]
  congr 1
  have:((λx:BitVec 8=>UInt8.ofNat x.toNat) ∘ λc:UInt8=>BitVec.ofNat 8 c.toNat)=id:=by
   funext c
   have:=c.toNat_lt;simp
  rw[this,List.map_id]
 cases h:strOf (itoaL n)with
 | mk d=>
  rw[h]at this;rw[<-this]
theorem pU(w:World)(n:Int)(a: -9223372036854775808<=n)(c:n<9223372036854775808)(b:PowTab w):
  Calls prog 50 #[.int .i64 n] w (Below0 w (Sv (itoaL n))):=by
 refine(Tryz.strconv_Itoa n a (by omega) w b).mono ?_
 rintro e d ⟨rfl,k,h,rfl⟩;exact⟨by rw[Sv_itoa],Lib.below_grow _ _ (bfx _) _ _⟩
theorem decDigits_val(u:Nat):((Lib.decDigits u).foldl (λa c=>10*a+(c.toNat-48)) 0=u)/\(∀c∈Lib.decDigits u,48<=c.toNat/\c.toNat<=57)/\0<(Lib.decDigits u).length/\(10<=u->∃c r,Lib.decDigits u=c::r/\c.toNat≠48):=by
 induction u using Nat.strongRecOn with
 | _ u ih=>
  rw[Lib.decDigits]
  split
  ·rename_i h;refine⟨?_,?_,by simp,λe=>by omega⟩
   ·simp;omega
   intro c b;simp only[bgd]at b;subst b;simp;omega
  rename_i h;obtain⟨j,e,m,k⟩:=ih (u / 10) (by omega)
  refine⟨?_,?_,by simp,λ_=>?_⟩
  ·rw[List.foldl_append,j];simp;omega
  ·intro c b;rcases List.mem_append.1 b with b | b
   ·exact e c b
   simp only[bgd]at b;subst b;simp;omega
  by_cases d:10<=u / 10
  ·obtain⟨c,r,b,l⟩:=k d;exact⟨c,r++_,by rw[b];rfl,l⟩
  rw[Lib.decDigits,dif_pos (by omega)]
  refine⟨_,_,rfl,?_⟩;simp;omega
open Go.RowKit Go.Proofs.Tryz
def nameC(c:Nat):Bool:=decide ((97<=c/\c<=122)∨(48<=c/\c<=57)∨c=45)
def nameB(s:List (BitVec 8)):Bool:=(s.all λc=>nameC c.toNat) && decide (1<=s.length/\s.length<=16)
structure ItemL where
 kind:Int
 key:List (BitVec 8)
 time:Int
 value:Int
def ItemL.cells(x:ItemL):Array Value:=#[.int .i64 x.kind,Sv x.key,.int .i64 x.time,.int .i64 x.value]
def ItemL.rightB(x:ItemL):Bool:=
 decide (0<=x.time/\x.time<=1099511627776) && if x.kind=2 then decide (x.key=[]/\x.value=0)else decide (x.kind=1) && nameB x.key && decide (-1099511627776<=x.value/\x.value<=1099511627776)
def ItemL.bytes(x:ItemL):List (BitVec 8):=
 if x.kind=2 then wordL 2++numberL x.time else wordL 1++textL x.key++numberL x.time++signedL x.value
def bMark:List (BitVec 8):=[109,97,114,107,32]
def bEvent:List (BitVec 8):=[101,118,101,110,116,32]
def bBlank:List (BitVec 8):=[32]
def ItemL.text(x:ItemL):List (BitVec 8):=
 if x.kind=2 then bMark++itoaL x.time else bEvent++x.key++bBlank++itoaL x.time++bBlank++itoaL x.value
theorem itoaL_length(n:Int)(h:n.natAbs<10 ^ 20):(itoaL n).length<=21:=by
 have key:∀(k u:Nat),u<10 ^ (k+1)->(Lib.decDigits u).length<=k+1:=by
  intro k
  induction k with
  | zero=>
   intro u a;rw[Lib.decDigits,dif_pos (by omega)]
   simp
  | succ k ih=>
   intro u a;rw[Lib.decDigits]
   split
   ·simp
   rw[bft];have:=ih (u / 10) (by rw[Nat.pow_succ]at a;omega)
   simp;omega
 unfold itoaL Lib.itoa
 split
 ·have:=key 19 n.natAbs h;simp;omega
 have:=key 19 n.toNat (by omega)
 simp;omega
theorem nameB_step(s:List (BitVec 8))(k:Nat)(h:k<s.length):(s.take (k+1)).all (λc=>nameC c.toNat)=((s.take k).all (λc=>nameC c.toNat) && nameC (gl s k).toNat):=by
 rw[List.take_succ_eq_append_getElem h,List.all_append];simp[gl,h]
theorem nameB_bad(s:List (BitVec 8))(k:Nat)(h:k<s.length)(a:nameC (gl s k).toNat=false):nameB s=false:=by
 unfold nameB;have:s.all (λc=>nameC c.toNat)=false:=by
  rw[Bool.eq_false_iff];intro b;rw[bgt]at b;have:=b (gl s k) (by simp[gl,h])
  rw[this]at a;cases a
 rw[this];rfl
end Go.Proofs.YtgfmbkoieacgoaaGreatDoor
set_option maxRecDepth 100000
set_option maxHeartbeats 1000000
namespace Go.Proofs.YtgfmbkoieacgoaaGreatDoor
open Go Go.RowKit Go.Proofs.Tryz
theorem esign_any(w:World)(x:Nat):Calls prog 172 #[.int .u8 (x:Int)] w λe w'=>e=.returned (.bool (nameC x))/\w'=w:=by
 obtain⟨r,k⟩:=Nm (nameC x);rw[<-k];have m:r=decide ((97<=x/\x<=122)∨(48<=x/\x<=57)∨x=45):=k;clear k;have a:(97<=x/\x<=122/\r=true)∨(97<=x/\122<x/\r=false)∨(x<97/\48<=x/\x<=57/\r=true)∨(x<97/\48<=x/\57<x/\r=false)∨(x<97/\x<48/\x=45/\r=true)∨(x<97/\x<48/\x≠45/\r=false):=by
  rw[m];simp only[bf0,decide_eq_false_iff_not];omega
 clear m;rcases a with⟨b,c,rfl⟩ | ⟨b,c,rfl⟩ | ⟨b,c,h,rfl⟩ | ⟨b,c,h,rfl⟩ | ⟨b,c,h,rfl⟩ | ⟨b,c,h,rfl⟩
 ·have d:decide ((97:Int)<=(x:Int))=true:=bfr (by omega)
  have o:decide ((x:Int)<=(122:Int))=true:=bfr (by omega)
  go_enter func172,ntmps172;go_wp2_with fail;go_ret;exact⟨rfl,rfl⟩
 ·have d:decide ((97:Int)<=(x:Int))=true:=bfr (by omega)
  have o:decide ((x:Int)<=(122:Int))=false:=bfq (by omega)
  have j:decide ((48:Int)<=(x:Int))=true:=bfr (by omega)
  have n:decide ((x:Int)<=(57:Int))=false:=bfq (by omega)
  have l:((x:Int)==45)=false:=by simp;omega
  go_enter func172,ntmps172;go_wp2_with fail;go_ret;exact⟨rfl,rfl⟩
 ·have d:decide ((97:Int)<=(x:Int))=false:=bfq (by omega)
  have j:decide ((48:Int)<=(x:Int))=true:=bfr (by omega)
  have n:decide ((x:Int)<=(57:Int))=true:=bfr (by omega)
  go_enter func172,ntmps172;go_wp2_with fail;go_ret;exact⟨rfl,rfl⟩
 ·have d:decide ((97:Int)<=(x:Int))=false:=bfq (by omega)
  have j:decide ((48:Int)<=(x:Int))=true:=bfr (by omega)
  have n:decide ((x:Int)<=(57:Int))=false:=bfq (by omega)
  have l:((x:Int)==45)=false:=by simp;omega
  go_enter func172,ntmps172;go_wp2_with fail;go_ret;exact⟨rfl,rfl⟩
 ·have d:decide ((97:Int)<=(x:Int))=false:=bfq (by omega)
  have j:decide ((48:Int)<=(x:Int))=false:=bfq (by omega)
  have l:((x:Int)==45)=true:=by simp;omega
  clear h;go_enter func172,ntmps172;go_wp2_with fail;go_ret;exact⟨rfl,rfl⟩
 have d:decide ((97:Int)<=(x:Int))=false:=bfq (by omega)
 have j:decide ((48:Int)<=(x:Int))=false:=bfq (by omega)
 have l:((x:Int)==45)=false:=by simp;omega
 go_enter func172,ntmps172;go_wp2_with fail;go_ret;exact⟨rfl,rfl⟩
def ENameRel(w:World)(s:List (BitVec 8))(_i v:Value)(wr:World):Prop:=∃k:Nat,k<=s.length/\v=.int .i64 (k:Int)/\wr=w/\(s.take k).all (λc=>nameC c.toNat)=true
theorem ename_any(w:World)(s:List (BitVec 8))(J:s.length<=1000000):
  Calls prog 116 #[Sv s] w λe w'=>e=.returned (.bool (nameB s))/\w'=w:=by
 obtain⟨n,p⟩:=Nm (s.length);have O:∀w q,(Builtin.len_ #[9] q #[Sv s]).run prog w=.ok (.int .i64 (n:Int)) w:=λw q=>by rw[run_len_Sv w q s,p]
 obtain⟨r,u⟩:=Nm (nameB s);rw[<-u];have c:=Lh (bfy p u);have d:n<=1000000:=by omega
 clear p u J;by_cases y:n<1
 ·obtain rfl:r=false:=by rw[c.out.2,nameB,<-c.out.1,bfq (by omega),Bool.and_false]
  have h:(n:Int)<1:=by omega
  clear d y;go_enter func116,ntmps116;go_wp2_with fail;go_ret;exact⟨rfl,rfl⟩
 by_cases j:16<n
 ·obtain rfl:r=false:=by rw[c.out.2,nameB,<-c.out.1,bfq (by omega),Bool.and_false]
  have h:¬(n:Int)<1:=by omega
  have z:(16:Int)<n:=by omega
  clear d y j;go_enter func116,ntmps116;go_wp2_with fail;go_ret;exact⟨rfl,rfl⟩
 have l:=Lh (show 1<=n/\n<=16 by omega)
 have h:¬(n:Int)<1:=by omega
 have z:¬(16:Int)<n:=by omega
 clear y j d;go_enter func116,ntmps116;go_wp2_with fail;go_loopw[3,14] (ENameRel w s) (λ_ v _=>n-(intOf v).toNat)
 case atStart=>exact⟨0,by omega,rfl,rfl,rfl⟩
 case round=>
  obtain⟨k,K,rfl,rfl,a⟩:=hrel;rw[<-c.out.1]at K;by_cases b:k<n
  ·have I:(k:Int)<(n:Int):=by omega
   obtain⟨x,m⟩:=Nm ((gl s k).toNat);have L:∀w,(Instr.index 9 (Sv s) (.int .i64 (k:Int))).run prog w=.ok (.int .u8 (x:Int)) w:=λw=>by
    rw[run_index_Sv w s k (by rw[<-c.out.1];exact b),B,m]
   have D:=Lh (esign_any wr x);obtain⟨g,o⟩:=Nm (nameC x);rw[<-o]at D
   cases g with
   | true=>
    have M:Hid (ENameRel wr s (.int .i64 (k:Int)) (.int .i64 ((k:Int)+1)) wr):=by
     refine⟨k+1,by rw[<-c.out.1];omega,by go_num,rfl,?_⟩
     rw[nameB_step s k (by rw[<-c.out.1];exact b),a,<-m,<-o]
     rfl
    have N:=Lh (bfy b l.out);clear a m o b;go_wp2_with fail;refine D.out.mono ?_;rintro e E ⟨rfl,F⟩;subst E;dsimp only;go_wp2_with fail;have:=N.out;exact⟨M.out,by simp[intOf];omega⟩
   | false=>
    obtain rfl:r=false:=by
     rw[c.out.2];exact nameB_bad s k (by rw[<-c.out.1];exact b) (by rw[<-m];exact o.symm)
    clear a m o b;go_wp2_with fail;refine D.out.mono ?_;rintro e E ⟨rfl,F⟩;subst E;dsimp only;go_wp2_with fail;go_ret;exact⟨rfl,rfl⟩
  obtain rfl:k=n:=by omega
  rw[c.out.1,bgs]at a;obtain rfl:r=true:=by
   rw[c.out.2,nameB,a,<-c.out.1,bfr l.out];rfl
  clear a b;go_wp2_with fail;go_ret;exact⟨rfl,rfl⟩
theorem eright_any(w:World)(x:ItemL)(E:x.key.length<=1000000):
  Calls prog 61 #[.agg x.cells] w (Below0 w (.bool x.rightB)):=by
 obtain⟨b,key,j,a⟩:=x;obtain⟨r,c⟩:=Nm ((ItemL.mk b key j a).rightB);rw[<-c];have u:=λw=>ename_any w key E;obtain⟨I,m⟩:=Nm (nameB key);rw[<-m]at u;simp only[ItemL.rightB]at c;rw[<-m]at c;have k:=Lh u;clear m u E;unfold ItemL.cells;by_cases M:j<0
 ·obtain rfl:r=false:=by rw[c,bfq (by omega)];rfl
  clear c;go_enter func61,ntmps61;go_wp2_with fail;go_ret;exact⟨rfl,(Below.refl _ w).alloc (bfx _) _⟩
 by_cases N:1099511627776<j
 ·obtain rfl:r=false:=by rw[c,bfq (by omega)];rfl
  clear c;go_enter func61,ntmps61;go_wp2_with fail;go_ret;exact⟨rfl,(Below.refl _ w).alloc (bfx _) _⟩
 rw[bfr (show 0<=j/\j<=1099511627776 by omega),bgw]at c
 by_cases n:b=1
 ·have J:(b==1)=true:=by rw[n];rfl
  rw[if_neg (by omega),bfr n,bgw]at c
  clear n
  cases I with
  | false=>
   obtain rfl:r=false:=by rw[c];rfl
   clear c;go_enter func61,ntmps61;go_wp2_with fail;refine(k.out _).mono ?_;rintro e y ⟨rfl,rfl⟩;dsimp only;go_wp2_with fail;go_ret;exact⟨rfl,(Below.refl _ w).alloc (bfx _) _⟩
  | true=>
   by_cases q: -1099511627776<=a
   ·have K:decide ((-1099511627776:Int)<=a)=true:=bfr q;by_cases s:a<=1099511627776
    ·have d2:decide (a<=(1099511627776:Int))=true:=bfr s;obtain rfl:r=true:=by rw[c,bfr ⟨q,s⟩];rfl
     clear c;go_enter func61,ntmps61;go_wp2_with fail;refine(k.out _).mono ?_;rintro e y ⟨rfl,rfl⟩;dsimp only;go_wp2_with fail;go_ret;exact⟨rfl,(Below.refl _ w).alloc (bfx _) _⟩
    have d2:decide (a<=(1099511627776:Int))=false:=bfq s;obtain rfl:r=false:=by rw[c,bfq (λh=>s h.2)];rfl
    clear c;go_enter func61,ntmps61;go_wp2_with fail;refine(k.out _).mono ?_;rintro e y ⟨rfl,rfl⟩;dsimp only;go_wp2_with fail;go_ret;exact⟨rfl,(Below.refl _ w).alloc (bfx _) _⟩
   have K:decide ((-1099511627776:Int)<=a)=false:=bfq q;obtain rfl:r=false:=by rw[c,bfq (λh=>q h.1)];rfl
   clear c;go_enter func61,ntmps61;go_wp2_with fail;refine(k.out _).mono ?_;rintro e y ⟨rfl,rfl⟩;dsimp only;go_wp2_with fail;go_ret;exact⟨rfl,(Below.refl _ w).alloc (bfx _) _⟩
 have J:(b==1)=false:=by simpa using n
 by_cases p:b=2
 ·have L:(b==2)=true:=by rw[p];rfl
  rw[if_pos p]at c;clear p;obtain⟨d,z⟩:=Nm (decide (key=[]));have F:∀w,(binOp .eql 9 (Sv key) (.string ⟨#[]⟩)).run prog w=.ok (.bool d) w:=λw=>by rw[z];exact run_eql_Sv0 w key
  obtain⟨D,o⟩:=Nm (a==0);have O:(a==0)=D:=o.symm;have l:r=(d && D):=by
   rw[c,z,o,Bool.eq_iff_iff];simp
  clear c z o n
  cases d with
  | true=>
   obtain rfl:r=D:=by rw[l];rfl
   clear l
   cases r with
   | true=>
    go_enter func61,ntmps61;go_wp2_with fail;go_ret;exact⟨rfl,(Below.refl _ w).alloc (bfx _) _⟩
   | false=>
    go_enter func61,ntmps61;go_wp2_with fail;go_ret;exact⟨rfl,(Below.refl _ w).alloc (bfx _) _⟩
  | false=>
   obtain rfl:r=false:=by rw[l];rfl
   clear l;go_enter func61,ntmps61;go_wp2_with fail;go_ret;exact⟨rfl,(Below.refl _ w).alloc (bfx _) _⟩
 have L:(b==2)=false:=by simpa using p
 obtain rfl:r=false:=by rw[c,if_neg p,bfq n];rfl
 clear c n p;go_enter func61,ntmps61;go_wp2_with fail;go_ret;exact⟨rfl,(Below.refl _ w).alloc (bfx _) _⟩
end Go.Proofs.YtgfmbkoieacgoaaGreatDoor
set_option maxRecDepth 100000
namespace Go.Proofs.YtgfmbkoieacgoaaGreatDoor
open Go Go.RowKit Go.Proofs.Tryz
def lL(w:World):Prop:=∀g:Nat,g=2∨g=3->∃ev,w.cell? ⟨g,0,none⟩=some ev/\(ev=.nilIface∨∃te pe,ev=.iface te pe)
def lvB(l:List (BitVec 8)):List UInt8:=l.map λc=>UInt8.ofNat c.toNat
theorem Sv_lv(l:List (BitVec 8)):Sv l=.string ⟨(lvB l).toArray⟩:=by
 unfold Sv
 congr 1
 have:(strOf l).data=(lvB l).toArray:=strOf_data l
 cases h:strOf l with
 | mk d=>
  rw[h]at this;rw[<-this]
def numL(l:List (BitVec 8)):Int:=match Lib.atoiAll (lvB l)with | .ok v=>v | _=>0
theorem rM(w:World)(l:List (BitVec 8))(o:l.length<=1000000)(p:lL w):Calls prog 208 #[Sv l] w (Below0 w (.int .i64 (numL l))):=by
 have d:(⟨(lvB l).toArray⟩:ByteArray).size<=1000000:=by simpa[ByteArray.size,lvB]using o
 have a:numL l=match Lib.atoiAll (lvB l)with | .ok v=>v | _=>0:=rfl
 cases h:Lib.atoiAll (lvB l)with
 | ok v=>
  have c:=Lh (Tryz.strconv_Atoi_ok ⟨(lvB l).toArray⟩ (by omega) v h w)
  rw[<-Sv_lv]at c;rw[a,h];clear h a d o;go_enter func208,ntmps208;go_wp2_with fail;refine c.out.mono ?_;rintro e q ⟨rfl,u⟩;have j:Hid (Bw w q):=by
   rcases u with rfl | ⟨t,rfl⟩
   ·exact Below.refl _ _
   exact Lib.bytesWorld_below w _ t
  clear u;dsimp only;go_wp2_with fail;go_ret;exact⟨rfl,j.out⟩
 | «syntax»=>
  obtain⟨r,k,m⟩:=p 2 (.inl rfl);have c:=Lh (Tryz.strconv_Atoi_syntax ⟨(lvB l).toArray⟩ (by omega) h r w k m)
  rw[<-Sv_lv]at c;rw[a,h];clear h a d o k m p;go_enter func208,ntmps208;go_wp2_with fail;refine c.out.mono ?_;rintro e q ⟨N,rfl,s,b,n⟩;have j:=Lh n;clear s b n;dsimp only;go_wp2_with fail;go_ret;exact⟨rfl,j.out⟩
 | range=>
  obtain⟨r,k,m⟩:=p 3 (.inr rfl);have c:=Lh (Tryz.strconv_Atoi_range ⟨(lvB l).toArray⟩ (by omega) h r w k m)
  rw[<-Sv_lv]at c;rw[a,h];clear h a d o k m p;go_enter func208,ntmps208;go_wp2_with fail;refine c.out.mono ?_;rintro e q ⟨N,rfl,s,b,n⟩;have j:=Lh n;clear s b n;dsimp only;go_wp2_with fail;go_ret;exact⟨rfl,j.out⟩
def bvL(l:List UInt8):List (BitVec 8):=l.map λc=>BitVec.ofNat 8 c.toNat
theorem strOf_bv(l:List UInt8):strOf (bvL l)=⟨l.toArray⟩:=by
 have:(strOf (bvL l)).data=l.toArray:=by
  rw[strOf_data,bvL,List.map_map]
  congr 1
  have:((λx:BitVec 8=>UInt8.ofNat x.toNat) ∘ λc:UInt8=>BitVec.ofNat 8 c.toNat)=id:=by
   funext c
   have:=c.toNat_lt;simp
  rw[this,List.map_id]
 cases h:strOf (bvL l)with
 | mk d=>
  rw[h]at this;rw[<-this]
theorem Sv_bv(l:List UInt8):(Value.string ⟨l.toArray⟩)=Sv (bvL l):=by
 unfold Sv;rw[strOf_bv]
theorem bvL_append(a b:List UInt8):bvL (a++b)=bvL a++bvL b:=by simp[bvL]
theorem bvL_length(a:List UInt8):(bvL a).length=a.length:=by simp[bvL]
theorem itoaL_bv(n:Int):itoaL n=bvL (Lib.itoa n):=rfl
theorem decFrom_app(a b:List UInt8):∀e n,Lib.decFrom e a=some n->Lib.decFrom e (a++b)=Lib.decFrom n b:=by
 induction a with
 | nil=>
  intro e n h;simp only[Lib.decFrom,bf5]at h;rw[h,List.nil_append]
 | cons c a ih=>
  intro e n h;simp only[List.cons_append,Lib.decFrom]at h ⊢
  cases hd:Lib.digitVal c with
  | none=>rw[hd]at h;cases h
  | some d=>
   rw[hd]at h;exact ih _ _ h
theorem digit_of(d:Nat)(h:d<10):Lib.digitVal (UInt8.ofNat (48+d))=some d:=by
 have:(UInt8.ofNat (48+d)).toNat=48+d:=by simp;omega
 unfold Lib.digitVal;rw[this,if_pos (by omega)]
 congr 1
 omega
theorem decFrom_digits(u:Nat):Lib.decFrom 0 (Lib.decDigits u)=some u:=by
 induction u using Nat.strongRecOn with
 | _ u ih=>
  rw[Lib.decDigits]
  split
  ·rename_i h;simp only[Lib.decFrom,digit_of u h];simp
  rename_i h;rw[decFrom_app _ _ _ _ (ih (u / 10) (by omega))]
  simp only[Lib.decFrom,digit_of (u % 10) (by omega)]
  congr 1
  omega
theorem digits_bytes(u:Nat):∀c∈Lib.decDigits u,48<=c.toNat/\c.toNat<=57:=(decDigits_val u).2.1
theorem digits_pos(u:Nat):0<(Lib.decDigits u).length:=(decDigits_val u).2.2.1
theorem digits_len(k u:Nat)(h:u<10 ^ (k+1)):(Lib.decDigits u).length<=k+1:=by
 induction k generalizing u with
 | zero=>
  rw[Lib.decDigits,dif_pos (by omega)]
  simp
 | succ k ih=>
  rw[Lib.decDigits]
  split
  ·simp
  rw[bft];have:=ih (u / 10) (by rw[Nat.pow_succ]at h;omega)
  simp;omega
theorem decNat_digits(u:Nat):Lib.decNat (Lib.decDigits u)=some u:=by
 have h:=digits_pos u;unfold Lib.decNat;rw[if_neg (by simp;intro a;rw[a]at h;simp at h)]
 exact decFrom_digits u
theorem atoi_itoa(n:Int):Lib.atoi (Lib.itoa n)=some n:=by
 unfold Lib.itoa
 split
 ·rename_i h;have:n.natAbs=(n.natAbs:Nat):=rfl;simp only[Lib.atoi];rw[if_pos (by decide),decNat_digits]
  simp;omega
 rename_i h;have a:=digits_pos n.toNat;have b:=digits_bytes n.toNat;have d:=decNat_digits n.toNat
 cases hl:Lib.decDigits n.toNat with
 | nil=>rw[hl]at a;simp at a
 | cons c r=>
  rw[hl]at b d;have e:=b c (by simp)
  simp only[Lib.atoi];have j:(c==45)=false:=by
   rw[beq_eq_false_iff_ne];rintro rfl
   revert e
   decide
  have k:(c==43)=false:=by
   rw[beq_eq_false_iff_ne];rintro rfl
   revert e
   decide
  rw[j,k,d];simp;omega
def Sign(c:UInt8):Prop:=c=43∨c=45
instance (c:UInt8):Decidable (Sign c):=by unfold Sign;exact inferInstance
end Go.Proofs.YtgfmbkoieacgoaaGreatDoor
