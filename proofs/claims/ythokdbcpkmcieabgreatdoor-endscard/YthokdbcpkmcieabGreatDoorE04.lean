/- Shelf Parts Scan8 -/
import Derived.Shelf.Strings.OnBuilder
import Derived.Shelf.Strconv.Itoa3
import Derived.Shelf.Strings.Cut
import Derived.Shelf.Strings.Split
import Derived.Shelf.LaysM
import Derived.Test.YthokdbcpkmcieabGreatDoorProg
import Derived.Test.YthokdbcpkmcieabGreatDoorE03
import Derived.Deep.QuietTactic
import Derived.BigQuiet
import Derived.OwnWalk
set_option maxRecDepth 200000
set_option maxHeartbeats 8000000
namespace Go.Proofs
open Go.Shelf
def Tryz.lays145_ren:Go.Shelf.Ren:=⟨fun | 145=>176 | 220=>205 | 219=>259 | 217=>298 | 225=>299 | 224=>300 | 267=>301 | 266=>326 | 314=>327 | n=>n,fun | 9=>9 | 4=>4 | 59=>282 | 3=>3 | 5=>5 | 46=>274 | 146=>403 | 51=>402 | n=>n,fun | 1=>0 | n=>n⟩
theorem Tryz.lays145:Go.Proofs.Lays.n145 Tryz.prog Tryz.lays145_ren:={
 mixed:=by kernel_rfl
 f145:=Tryz.func176.trans (congrArg some (by kernel_rfl))
 f217:=Tryz.func298.trans (congrArg some (by kernel_rfl))
 f219:=Tryz.func259.trans (congrArg some (by kernel_rfl))
 f220:=Tryz.func205.trans (congrArg some (by kernel_rfl))
 f224:=Tryz.func300.trans (congrArg some (by kernel_rfl))
 f225:=Tryz.func299.trans (congrArg some (by kernel_rfl))
 f266:=Tryz.func326.trans (congrArg some (by kernel_rfl))
 f267:=Tryz.func301.trans (congrArg some (by kernel_rfl))
 f314:=Tryz.func327.trans (congrArg some (by kernel_rfl))
 t3:=Tryz.underlying3
 a3:=Tryz.isAgg3
 z3:=Tryz.sizeOf3
 v3:=Tryz.zeroValue3
 t4:=Tryz.underlying4
 a4:=Tryz.isAgg4
 z4:=Tryz.sizeOf4
 v4:=Tryz.zeroValue4
 t5:=Tryz.underlying5
 a5:=Tryz.isAgg5
 z5:=Tryz.sizeOf5
 v5:=Tryz.zeroValue5
 t9:=Tryz.underlying9
 a9:=Tryz.isAgg9
 z9:=Tryz.sizeOf9
 v9:=Tryz.zeroValue9
 t46:=Tryz.underlying274
 a46:=Tryz.isAgg274
 z46:=Tryz.sizeOf274
 v46:=Tryz.zeroValue274
 t51:=Tryz.underlying402
 a51:=Tryz.isAgg402
 z51:=Tryz.sizeOf402
 v51:=Tryz.zeroValue402
 t59:=Tryz.underlying282
 a59:=Tryz.isAgg282
 z59:=Tryz.sizeOf282
 v59:=Tryz.zeroValue282
 t146:=Tryz.underlying403
 a146:=Tryz.isAgg403
 z146:=Tryz.sizeOf403
 v146:=Tryz.zeroValue403
 g1:=by kernel_rfl }
open Go.RowKit Go.Lib in
theorem Tryz.strings_Cut (s sep:ByteArray)(m:Int)(w:World)(hs:s.size<4294967281)(hm:w.cell? ⟨0,0,none⟩=some (.int .i64 m)) :
  Calls Tryz.prog 176 #[.string s,.string sep] w fun e w'=>e=.returned (.tuple #[.string ⟨(Lib.cut s.data.toList sep.data.toList).1.toArray⟩,.string ⟨(Lib.cut s.data.toList sep.data.toList).2.1.toArray⟩,.bool (Lib.cut s.data.toList sep.data.toList).2.2])∧∃ n,w'=w.drewN n:=Any.strings_Cut Tryz.lays145 s sep m w hs hm
def Tryz.lays146_ren:Go.Shelf.Ren:=⟨fun | 146=>177 | 221=>206 | 268=>260 | 138=>261 | 143=>262 | 195=>302 | 197=>303 | 218=>304 | 219=>259 | 260=>328 | 217=>298 | 225=>299 | 224=>300 | 267=>301 | 266=>326 | 314=>327 | n=>n,fun | 9=>9 | 31=>43 | 3=>3 | 4=>4 | 0=>0 | 105=>374 | 21=>21 | 5=>5 | 46=>274 | 119=>418 | 139=>421 | 138=>420 | 146=>403 | 51=>402 | n=>n,fun | 1=>0 | 3=>1 | 4=>2 | n=>n⟩
theorem Tryz.lays146:Go.Proofs.Lays.n146 Tryz.prog Tryz.lays146_ren:={
 mixed:=by kernel_rfl
 f138:=Tryz.func261.trans (congrArg some (by kernel_rfl))
 f143:=Tryz.func262.trans (congrArg some (by kernel_rfl))
 f146:=Tryz.func177.trans (congrArg some (by kernel_rfl))
 f195:=Tryz.func302.trans (congrArg some (by kernel_rfl))
 f197:=Tryz.func303.trans (congrArg some (by kernel_rfl))
 f217:=Tryz.func298.trans (congrArg some (by kernel_rfl))
 f218:=Tryz.func304.trans (congrArg some (by kernel_rfl))
 f219:=Tryz.func259.trans (congrArg some (by kernel_rfl))
 f221:=Tryz.func206.trans (congrArg some (by kernel_rfl))
 f224:=Tryz.func300.trans (congrArg some (by kernel_rfl))
 f225:=Tryz.func299.trans (congrArg some (by kernel_rfl))
 f260:=Tryz.func328.trans (congrArg some (by kernel_rfl))
 f266:=Tryz.func326.trans (congrArg some (by kernel_rfl))
 f267:=Tryz.func301.trans (congrArg some (by kernel_rfl))
 f268:=Tryz.func260.trans (congrArg some (by kernel_rfl))
 f314:=Tryz.func327.trans (congrArg some (by kernel_rfl))
 t0:=Tryz.underlying0
 a0:=Tryz.isAgg0
 z0:=Tryz.sizeOf0
 v0:=Tryz.zeroValue0
 t3:=Tryz.underlying3
 a3:=Tryz.isAgg3
 z3:=Tryz.sizeOf3
 v3:=Tryz.zeroValue3
 t4:=Tryz.underlying4
 a4:=Tryz.isAgg4
 z4:=Tryz.sizeOf4
 v4:=Tryz.zeroValue4
 t5:=Tryz.underlying5
 a5:=Tryz.isAgg5
 z5:=Tryz.sizeOf5
 v5:=Tryz.zeroValue5
 t9:=Tryz.underlying9
 a9:=Tryz.isAgg9
 z9:=Tryz.sizeOf9
 v9:=Tryz.zeroValue9
 t21:=Tryz.underlying21
 a21:=Tryz.isAgg21
 z21:=Tryz.sizeOf21
 v21:=Tryz.zeroValue21
 t31:=Tryz.underlying43
 a31:=Tryz.isAgg43
 z31:=Tryz.sizeOf43
 v31:=Tryz.zeroValue43
 t46:=Tryz.underlying274
 a46:=Tryz.isAgg274
 z46:=Tryz.sizeOf274
 v46:=Tryz.zeroValue274
 t51:=Tryz.underlying402
 a51:=Tryz.isAgg402
 z51:=Tryz.sizeOf402
 v51:=Tryz.zeroValue402
 t105:=Tryz.underlying374
 a105:=Tryz.isAgg374
 z105:=Tryz.sizeOf374
 v105:=Tryz.zeroValue374
 t119:=Tryz.underlying418
 a119:=Tryz.isAgg418
 z119:=Tryz.sizeOf418
 t138:=Tryz.underlying420
 a138:=Tryz.isAgg420
 z138:=Tryz.sizeOf420
 v138:=Tryz.zeroValue420
 t139:=Tryz.underlying421
 a139:=Tryz.isAgg421
 z139:=Tryz.sizeOf421
 v139:=Tryz.zeroValue421
 t146:=Tryz.underlying403
 a146:=Tryz.isAgg403
 z146:=Tryz.sizeOf403
 v146:=Tryz.zeroValue403
 g1:=by kernel_rfl
 g3:=by kernel_rfl
 g4:=by kernel_rfl }
open Go.RowKit Go.Lib in
theorem Tryz.strings_Split (s sep:ByteArray)(m:Int)(w:World)(hs:s.size<4294967281)(hm:w.cell? ⟨0,0,none⟩=some (.int .i64 m))(h1:1≤sep.size) :
  Calls Tryz.prog 177 #[.string s,.string sep] w fun e w' =>
   e=.returned (.slice (some ⟨w.heap.size,0,none⟩) (Lib.countB s sep+1) (Lib.countB s sep+1))∧w'=w.alloc (.cells ((Lib.splitB sep 0 (Lib.countB s sep) s).map Value.string).toArray 9):=Any.strings_Split Tryz.lays146 (by kernel_rfl) s sep m w hs hm h1
def Tryz.lays171_ren:Go.Shelf.Ren:=⟨fun | 171=>263 | 243=>305 | 246=>329 | 283=>344 | 284=>345 | 285=>346 | 286=>347 | 129=>357 | 317=>356 | 318=>358 | 319=>359 | 320=>360 | 337=>367 | 338=>368 | n=>n,fun | 3=>3 | 9=>9 | 2=>2 | 4=>4 | 171=>422 | 0=>0 | 53=>423 | 37=>32 | 5=>5 | 173=>426 | 212=>436 | 51=>402 | 20=>20 | 213=>437 | 46=>274 | 232=>449 | 233=>62 | n=>n,fun | 17=>3 | 18=>6 | 19=>7 | n=>n⟩
theorem Tryz.lays171:Go.Proofs.Lays.n171 Tryz.prog Tryz.lays171_ren:={
 mixed:=by kernel_rfl
 f129:=Tryz.func357.trans (congrArg some (by kernel_rfl))
 f171:=Tryz.func263.trans (congrArg some (by kernel_rfl))
 f243:=Tryz.func305.trans (congrArg some (by kernel_rfl))
 f246:=Tryz.func329.trans (congrArg some (by kernel_rfl))
 f283:=Tryz.func344.trans (congrArg some (by kernel_rfl))
 f284:=Tryz.func345.trans (congrArg some (by kernel_rfl))
 f285:=Tryz.func346.trans (congrArg some (by kernel_rfl))
 f286:=Tryz.func347.trans (congrArg some (by kernel_rfl))
 f317:=Tryz.func356.trans (congrArg some (by kernel_rfl))
 f318:=Tryz.func358.trans (congrArg some (by kernel_rfl))
 f319:=Tryz.func359.trans (congrArg some (by kernel_rfl))
 f320:=Tryz.func360.trans (congrArg some (by kernel_rfl))
 f337:=Tryz.func367.trans (congrArg some (by kernel_rfl))
 f338:=Tryz.func368.trans (congrArg some (by kernel_rfl))
 t0:=Tryz.underlying0
 a0:=Tryz.isAgg0
 z0:=Tryz.sizeOf0
 v0:=Tryz.zeroValue0
 t2:=Tryz.underlying2
 a2:=Tryz.isAgg2
 z2:=Tryz.sizeOf2
 v2:=Tryz.zeroValue2
 t3:=Tryz.underlying3
 a3:=Tryz.isAgg3
 z3:=Tryz.sizeOf3
 v3:=Tryz.zeroValue3
 t4:=Tryz.underlying4
 a4:=Tryz.isAgg4
 z4:=Tryz.sizeOf4
 v4:=Tryz.zeroValue4
 t5:=Tryz.underlying5
 a5:=Tryz.isAgg5
 z5:=Tryz.sizeOf5
 v5:=Tryz.zeroValue5
 t9:=Tryz.underlying9
 a9:=Tryz.isAgg9
 z9:=Tryz.sizeOf9
 v9:=Tryz.zeroValue9
 t20:=Tryz.underlying20
 a20:=Tryz.isAgg20
 z20:=Tryz.sizeOf20
 v20:=Tryz.zeroValue20
 t37:=Tryz.underlying32
 a37:=Tryz.isAgg32
 z37:=Tryz.sizeOf32
 v37:=Tryz.zeroValue32
 t46:=Tryz.underlying274
 a46:=Tryz.isAgg274
 z46:=Tryz.sizeOf274
 v46:=Tryz.zeroValue274
 t51:=Tryz.underlying402
 a51:=Tryz.isAgg402
 z51:=Tryz.sizeOf402
 v51:=Tryz.zeroValue402
 t53:=Tryz.underlying423
 a53:=Tryz.isAgg423
 z53:=Tryz.sizeOf423
 v53:=Tryz.zeroValue423
 t171:=Tryz.underlying422
 a171:=Tryz.isAgg422
 z171:=Tryz.sizeOf422
 v171:=Tryz.zeroValue422
 t173:=Tryz.underlying426
 a173:=Tryz.isAgg426
 z173:=Tryz.sizeOf426
 v173:=Tryz.zeroValue426
 t212:=Tryz.underlying436
 a212:=Tryz.isAgg436
 z212:=Tryz.sizeOf436
 v212:=Tryz.zeroValue436
 t213:=Tryz.underlying437
 a213:=Tryz.isAgg437
 z213:=Tryz.sizeOf437
 t232:=Tryz.underlying449
 a232:=Tryz.isAgg449
 z232:=Tryz.sizeOf449
 v232:=Tryz.zeroValue449
 t233:=Tryz.underlying62
 a233:=Tryz.isAgg62
 z233:=Tryz.sizeOf62
 v233:=Tryz.zeroValue62
 g17:=by kernel_rfl
 g18:=by kernel_rfl
 g19:=by kernel_rfl }
open Go.RowKit Go.Sort Go.Lib in
theorem Tryz.strconv_Itoa_small (i:Nat)(hi:i<100)(w:World) :
  Calls Tryz.prog 263 #[.int .i64 i] w fun e w'=>e=.returned (.string ⟨(Lib.decDigits i).toArray⟩)∧w'=w:=Any.strconv_Itoa_small Tryz.lays171 i hi w
def Tryz.laysM145_ren:Go.Shelf.Ren:=⟨fun | 145=>176 | 220=>205 | 219=>259 | 217=>298 | 225=>299 | 224=>300 | 267=>301 | 266=>326 | 314=>327 | n=>n,fun | 9=>9 | 4=>4 | 59=>282 | 3=>3 | 5=>5 | 46=>274 | 146=>403 | 51=>402 | n=>n,fun | 1=>0 | n=>n⟩
theorem Tryz.laysM145:Go.Proofs.LaysM.n145 Tryz.prog Tryz.laysM145_ren:={
 mixed:=by kernel_rfl
 f145:=Tryz.func176.trans (congrArg some (by kernel_rfl))
 f217:=Tryz.func298.trans (congrArg some (by kernel_rfl))
 f219:=Tryz.func259.trans (congrArg some (by kernel_rfl))
 f220:=Tryz.func205.trans (congrArg some (by kernel_rfl))
 f224:=Tryz.func300.trans (congrArg some (by kernel_rfl))
 f225:=Tryz.func299.trans (congrArg some (by kernel_rfl))
 f266:=Tryz.func326.trans (congrArg some (by kernel_rfl))
 f267:=Tryz.func301.trans (congrArg some (by kernel_rfl))
 f314:=Tryz.func327.trans (congrArg some (by kernel_rfl))
 t3:=Tryz.underlying3
 a3:=Tryz.isAgg3
 z3:=Tryz.sizeOf3
 v3:=Tryz.zeroValue3
 t4:=Tryz.underlying4
 a4:=Tryz.isAgg4
 z4:=Tryz.sizeOf4
 v4:=Tryz.zeroValue4
 t5:=Tryz.underlying5
 a5:=Tryz.isAgg5
 z5:=Tryz.sizeOf5
 v5:=Tryz.zeroValue5
 t9:=Tryz.underlying9
 a9:=Tryz.isAgg9
 z9:=Tryz.sizeOf9
 v9:=Tryz.zeroValue9
 t46:=Tryz.underlying274
 a46:=Tryz.isAgg274
 z46:=Tryz.sizeOf274
 v46:=Tryz.zeroValue274
 t51:=Tryz.underlying402
 a51:=Tryz.isAgg402
 z51:=Tryz.sizeOf402
 v51:=Tryz.zeroValue402
 t59:=Tryz.underlying282
 a59:=Tryz.isAgg282
 z59:=Tryz.sizeOf282
 v59:=Tryz.zeroValue282
 t146:=Tryz.underlying403
 a146:=Tryz.isAgg403
 z146:=Tryz.sizeOf403
 v146:=Tryz.zeroValue403
 g1:=by kernel_rfl
 i3:=by kernel_rfl
 i4:=by kernel_rfl
 i5:=by kernel_rfl
 i9:=by kernel_rfl
 i46:=by kernel_rfl
 i51:=by kernel_rfl
 i59:=by kernel_rfl
 i146:=by kernel_rfl
 m1:=by kernel_rfl
 s1_3:=fun w h=>Go.Proofs.cell_of_shapedOpen_int (zero:=#[.int .i64 0]) (t:=3) h (of_decide_eq_true (by kernel_rfl)) (by kernel_rfl) rfl (by kernel_rfl) (by kernel_rfl) Tryz.underlying3 }
end Go.Proofs
namespace Go.Proofs.YthokdbcpkmcieabGreatDoor
open Go Go.RowKit Go.WideMaps Go.Maps
def litInt:DataW Unit→Int
 | .lit (.int _ c)=>c
 | _=>0
def Z4X (t:ByteArray):Int:=litInt (kindsD.atKey (.string t.data.toList) (.lit (.int .i64 0)))
def Z18 (b:Int) (t:ByteArray):List Value:=[.int .i64 (Z4X t),.string t,.int .u8 b,.int .u16 0,.int .u16 0]
def pieces (l:ByteArray):List ByteArray:=Lib.splitB ⟨#[44]⟩ 0 (Lib.countB l ⟨#[44]⟩) l
theorem zero45 (w:World):(zeroValue 231).run Tryz.prog w=.ok (.int .i64 0) w:=by kernel_rfl
theorem Tryz.info48:(Tryz.prog.info? 233).map (fun i=>(i.zero,i.size,i.bytes))=some (some (.agg #[.int .i64 0,.string ⟨#[]⟩,.int .u8 0,.int .u16 0,.int .u16 0]),5,32):=by kernel_rfl
theorem Z4O {H:Type}{P:Program}{k:TypeId}{R:Value→Option (DataW H × List MemPlace)}{B b n:Nat}{D:DataW H}{w w':World}(h:w.ownsMap P k R b n D)(hb:Below B w w')(hlt:b<B):w'.ownsMap P k R b n D:=by
 obtain ⟨es,clock,h1,h2,h3,h4⟩:=h
 exact ⟨es,clock,(hb.block b hlt).trans h1,h2,h3,h4⟩
theorem pieces_len (l:ByteArray):(pieces l).length=Lib.countB l ⟨#[44]⟩ + 1:=Lib.splitB_all ⟨#[44]⟩ (by decide) 0 _ l rfl
theorem cut_no (s nm:ByteArray)(m:Int)(w:World)(hs:s.size<1000)(hm:w.cell? ⟨0,0,none⟩=some (.int .i64 m))(hcut:Lib.cut s.data.toList [32]=(nm.data.toList,[],false)) :
  Calls Tryz.prog 176 #[.string s,.string ⟨#[32]⟩] w fun e w'=>e=.returned (.tuple #[.string nm,.string ⟨#[]⟩,.bool false])∧Below w.heap.size w w':=by
 refine (Tryz.strings_Cut s ⟨#[32]⟩ m w (by omega) hm).mono ?_
 rintro e w1 ⟨rfl,n,rfl⟩
 rw [show (⟨#[32]⟩:ByteArray).data.toList=[32] from rfl,hcut]
 exact ⟨rfl,below_drewN (Below.refl _ _) _⟩
theorem cut_yes (s nm ls:ByteArray)(m:Int)(w:World)(hs:s.size<1000)(hm:w.cell? ⟨0,0,none⟩=some (.int .i64 m))(hcut:Lib.cut s.data.toList [32]=(nm.data.toList,ls.data.toList,true)) :
  Calls Tryz.prog 176 #[.string s,.string ⟨#[32]⟩] w fun e w'=>e=.returned (.tuple #[.string nm,.string ls,.bool true])∧Below w.heap.size w w':=by
 refine (Tryz.strings_Cut s ⟨#[32]⟩ m w (by omega) hm).mono ?_
 rintro e w1 ⟨rfl,n,rfl⟩
 rw [show (⟨#[32]⟩:ByteArray).data.toList=[32] from rfl,hcut]
 exact ⟨rfl,below_drewN (Below.refl _ _) _⟩
theorem parts_none (rc rf c m:Int)(rt nm:ByteArray)(kb:Nat)(w:World)(hs:rt.size<1000)(hm:w.cell? ⟨0,0,none⟩=some (.int .i64 m))(h0:0<w.heap.size)
  (hcut:Lib.cut rt.data.toList [32]=(nm.data.toList,[],false)) :
  Calls Tryz.prog 145 #[.agg #[.int .u8 rc,.int .u8 rf,.string rt],.int .u8 c,.map (some kb)] w fun e w'=>e=.returned (.tuple #[.string nm,.slice none 0 0])∧Below w.heap.size w w':=by
 have HC:Hid (Lib.cut rt.data.toList [32]=(nm.data.toList,[],false)):=hcut
 clear hcut
 have hm1:∀ o,(w.alloc o).cell? ⟨0,0,none⟩=some (.int .i64 m):=fun o=>by rw [World.cell?_alloc_old _ _ _ (by simp;omega)];exact hm
 go_enter Tryz.func145,Tryz.ntmps145
 go_wp2_with fail
 refine (cut_no rt nm m _ hs (hm1 _) HC.out).mono ?_
 rintro e w1 ⟨rfl,hb1⟩
 go_wp2
 go_ret2
 exact ⟨rfl,((Below.refl _ _).alloc (Nat.le_refl _) _).trans (hb1.mono (by simp))⟩
theorem split_at (ls:ByteArray)(ps:List ByteArray)(n:Nat)(m:Int)(w:World)(hls:ls.size<1000)(hm:w.cell? ⟨0,0,none⟩=some (.int .i64 m))(hps:pieces ls=ps)(hn:ps.length=n) :
  Calls Tryz.prog 177 #[.string ls,.string ⟨#[44]⟩] w fun e w'=>e=.returned (.slice (some ⟨w.heap.size,0,none⟩) n n)∧w'=w.alloc (.cells (ps.map Value.string).toArray 9):=by
 have h:=Tryz.strings_Split ls ⟨#[44]⟩ m w (by omega) hm (by decide)
 have hl:=pieces_len ls
 rw [hps,hn] at hl
 rw [←hl] at h
 rw [show Lib.splitB ⟨#[44]⟩ 0 (Lib.countB ls ⟨#[44]⟩) ls=ps from hps] at h
 exact h
theorem cells_snoc (b:Int)(ps:List ByteArray)(k:Nat)(h:k<ps.length):(ps.take (k+1)).flatMap (Z18 b)=(ps.take k).flatMap (Z18 b)++Z18 b ps[k]:=by
 rw [List.take_succ_eq_append_getElem h,List.flatMap_append]
 simp
theorem Z6V {w:World}{base:Nat}{e:TypeId}{size n:Nat}{v:Value}{xs:List Value}(h:w.ownsRow base e size v n xs):∀ j,v.ownBlock=some j→base≤j:=by
 obtain ⟨_,⟨rfl,_⟩ | ⟨g,cap,cur,rfl,hg,_⟩⟩:=h
 ·intro j hj;cases hj
 ·intro j hj;cases hj;exact hg
theorem Z0O {w:World}{base base':Nat}{e:TypeId}{size n:Nat}{v:Value}{xs:List Value}(h:w.ownsRow base e size v n xs)(hb:base'≤base):w.ownsRow base' e size v n xs:=by
 obtain ⟨h1,h | ⟨g,cap,cur,rfl,hg,h2⟩⟩:=h
 ·exact ⟨h1,.inl h⟩
 ·exact ⟨h1,.inr ⟨g,cap,cur,rfl,Nat.le_trans hb hg,h2⟩⟩
theorem kindI_is (t:ByteArray)(x:Int)(h:kindsD.atKey (.string t.data.toList) (.lit (.int .i64 0))=.lit (.int .i64 x)):Z4X t=x:=by
 unfold Z4X;rw [h];rfl
theorem parts_some (rc rf c m:Int)(rt nm ls:ByteArray)(ps:List ByteArray)(n kb:Nat)(w:World)(hown:w.ownsMap Tryz.prog 9 (plainElem Tryz.prog 231) kb 17 kindsD)(hs:rt.size<1000)(hls:ls.size<1000)(hm:w.cell? ⟨0,0,none⟩=some (.int .i64 m))(h0:0<w.heap.size)
  (hcut:Lib.cut rt.data.toList [32]=(nm.data.toList,ls.data.toList,true)) (hps:pieces ls=ps) (hn:ps.length=n) (hn1:n≤1000) (hpl:∀ t,t∈ps→t.size≤1000) :
  Calls Tryz.prog 145 #[.agg #[.int .u8 rc,.int .u8 rf,.string rt],.int .u8 c,.map (some kb)] w fun e w'=>∃ v,e=.returned (.tuple #[.string nm,v]) ∧
   w'.ownsRow w.heap.size 233 5 v n (ps.flatMap (Z18 (bits BinOp.and IntKind.u8 c rf)))∧Below w.heap.size w w':=by
 have HC:Hid (Lib.cut rt.data.toList [32]=(nm.data.toList,ls.data.toList,true)):=hcut
 have HP:Hid (∀ t,t∈ps→t.size≤1000):=hpl
 have HS:Hid (pieces ls=ps):=hps
 have HN:Hid (ps.length=n):=hn
 clear hcut hpl hps hn
 have hm1:∀ o,(w.alloc o).cell? ⟨0,0,none⟩=some (.int .i64 m):=fun o=>by rw [World.cell?_alloc_old _ _ _ (by simp;omega)];exact hm
 obtain ⟨i0,hi,hz0,hz1,hz2⟩:=info_parts Tryz.info48
 go_enter Tryz.func145,Tryz.ntmps145
 go_wp2_with fail
 refine (cut_yes rt nm ls m _ hs (hm1 _) HC.out).mono ?_
 rintro e w1 ⟨rfl,hb1⟩
 have hs1:w.heap.size+1≤w1.heap.size:=by have:=hb1.size;simpa using this
 have hlt2:kb<w.heap.size:=by
  obtain ⟨es,clock,h1,_⟩:=hown
  exact (Array.getElem?_eq_some_iff.1 h1).1
 have hown1:w1.ownsMap Tryz.prog 9 (plainElem Tryz.prog 231) kb 17 kindsD:=Z4O (hown.alloc _) hb1 (by simp;omega)
 have hm2:w1.cell? ⟨0,0,none⟩=some (.int .i64 m):=by rw [hb1.cell (by simp)];exact hm1 _
 have hf2:w1.cell? ⟨w.heap.size,1,none⟩=some (.int .u8 rf):=by rw [hb1.cell (by simp)];simp
 go_wp2_with fail
 refine (split_at ls ps n m _ hls hm2 HS.out HN.out).mono ?_
 rintro e w3 ⟨rfl,rfl⟩
 go_wp2_with fail
 go_loopw [11,27] (fun v i wr=>∃ k:Nat,k≤n∧i=.int .i64 k∧wr.ownsRow (w1.heap.size+1) 233 5 v k ((ps.take k).flatMap (Z18 (bits BinOp.and IntKind.u8 c rf)))∧Below (w1.heap.size+1) (w1.alloc (.cells (ps.map Value.string).toArray 9)) wr) (fun _ i _=>n-(intOf i).toNat)
 case atStart=>exact ⟨0,Nat.zero_le _,rfl,by simpa using World.ownsRow_nil _ _ _ _,Below.refl _ _⟩
 case round =>
  obtain ⟨k,hk,rfl,hrow,hbr⟩:=hrel
  have hsr:w1.heap.size+1≤wr.heap.size:=by have:=hbr.size;simpa using this
  by_cases hlt:k<n
  ·have hkp:k<ps.length:=by rw [HN.out];exact hlt
   obtain ⟨t,ht⟩:∃ t,ps[k]=t:=⟨_,rfl⟩
   have htl:t.size≤maxLen:=by have:=HP.out t (ht ▸ List.getElem_mem hkp);unfold maxLen;omega
   have HT:Hid (ps[k]=t):=ht
   have ct:wr.cell? ⟨w1.heap.size,k,none⟩=some (.string t):=by rw [hbr.cell (by simp)];simp [hkp,ht]
   have cf:wr.cell? ⟨w.heap.size,1,none⟩=some (.int .u8 rf):=by rw [hbr.cell (by simp;omega),World.cell?_alloc_old _ _ _ (by simp;omega)];exact hf2
   have hmap:wr.ownsMap Tryz.prog 9 (plainElem Tryz.prog 231) kb 17 kindsD:=Z4O (hown1.alloc _) hbr (by omega)
   clear ht
   go_wp2_with (first | (at_lookup;refine wpList_lookup_own_int _ rfl _ _ 228 rfl 9 231 .i64 Z0B Tryz.underlying228 Tryz.underlying231 (zero45 _) kb 17 _ rfl hmap (.string t) _ rfl (keyOf_string_mk Tryz.underlying9 htl) ?_;intro x hat hwx;have HX:Hid (Z4X t=x):=kindI_is t x hat;clear hat hwx) | (at_builtin;refine wpList_append_own _ rfl _ _ 225 rfl (w1.heap.size+1) 233 i0 _ 5 32 Tryz.underlying225 hi hz0 hz1 hz2 rfl (by decide) _ _ _ rfl (hrow.alloc _) ⟨wr.heap.size,0,none⟩ 1 1 [.int .i64 x,.string t,.int .u8 (bits BinOp.and IntKind.u8 c rf),.int .u16 0,.int .u16 0] rfl rfl ?c1 ?c2 ?c3 ?c4 ?c5 ?_))
   case c1 =>
    intro j u hj
    match j,hj with
    | 0,hj=>simp at hj;subst hj;simp [Addr.add]
    | 1,hj=>simp at hj;subst hj;simp [Addr.add]
    | 2,hj=>simp at hj;subst hj;simp [Addr.add]
    | 3,hj=>simp at hj;subst hj;simp [Addr.add]
    | 4,hj=>simp at hj;subst hj;simp [Addr.add]
   case c2=>intro u hu;simp at hu;rcases hu with rfl | rfl | rfl | rfl | rfl <;> rfl
   case c3=>unfold maxLen;omega
   case c4=>omega
   case c5=>simp;omega
   intro v' wn hown' hgrow _
   have hbn:Below (w1.heap.size+1) (w1.alloc (.cells (ps.map Value.string).toArray 9)) wn:=(hbr.alloc hsr _).grown hgrow (by simp;omega) (Z6V hrow)
   have hrn:wn.ownsRow (w1.heap.size+1) 233 5 v' (k+1) ((ps.take (k+1)).flatMap (Z18 (bits BinOp.and IntKind.u8 c rf))):=by
    rw [cells_snoc _ _ _ hkp,HT.out]
    unfold Z18 at hown' ⊢
    rw [HX.out]
    exact hown'
   clear hown' hgrow hrow hbr hmap ct cf
   go_wp2
   go_roundw
   case rel=>exact ⟨k+1,by omega,by go_num,hrn,hbn⟩
   case measure=>simp [intOf];omega
  ·have hkn:k=n:=by omega
   have hfull:wr.ownsRow w.heap.size 233 5 u11 n (ps.flatMap (Z18 (bits BinOp.and IntKind.u8 c rf))):=by
    have:=Z0O hrow (base':=w.heap.size) (by omega)
    rw [hkn,List.take_of_length_le (by rw [HN.out];exact Nat.le_refl _)] at this
    exact this
   have HF:Hid (wr.ownsRow w.heap.size 233 5 u11 n (ps.flatMap (Z18 (bits BinOp.and IntKind.u8 c rf)))):=hfull
   clear hfull hrow hkn
   go_wp2
   go_ret2
   refine ⟨u11,rfl,HF.out,?_⟩
   have e1:Below w.heap.size w w1:=((Below.refl _ _).alloc (Nat.le_refl _) _).trans (hb1.mono (by simp))
   exact (e1.alloc (by omega) _).trans (hbr.mono (by omega))
end Go.Proofs.YthokdbcpkmcieabGreatDoor
namespace Go.Proofs.YthokdbcpkmcieabGreatDoor
open Go Go.RowKit
structure Tok where
 kind:Nat
 text:ByteArray
 num:Int
def endT:Tok:=⟨0,⟨#[]⟩,0⟩
def Tok.cells (t:Tok):List Value:=[.int .i64 t.kind,.string t.text,.int .i64 t.num]
def Z0S (l:List Tok):List Value:=l.flatMap Tok.cells
theorem Z2j (l:List Tok)(t:Tok):Z0S (l ++ [t])=Z0S l++t.cells:=by simp [Z0S]
def Z4B (r:ByteArray):Nat:=max (runN r.data.toList) 1
def Z7M (r:ByteArray):ByteArray:=r.extract 0 (Z4B r)
def Z4F (r:ByteArray):ByteArray:=r.extract (Z4B r) r.size
def Z2c (c:UInt8) (t:ByteArray):Option (Option Tok) :=
 if c.toNat=32 then some none
 else if isD c=true then (numOf t.data.toList).map fun v=>some ⟨2,t,v⟩
 else if isW c=true then some (some ⟨1,t,0⟩)
 else some (some ⟨3,t,0⟩)
def optL {α:Type}:Option α→List α
 | some x=>[x]
 | none=>[]
def Z2u:Nat→ByteArray→Option (List Tok)
 | 0,_=>some []
 | f+1,r=>if h:0<r.size then (Z2c r[0] (Z7M r)).bind fun o=>(Z2u f (Z4F r)).map (optL o ++ ·) else some []
theorem pieceN_le (r:ByteArray)(h:0<r.size):Z4B r≤r.size:=by
 unfold Z4B
 have h1:runN r.data.toList≤r.data.toList.length:=(List.takeWhile_prefix _).length_le
 rw [Array.length_toList] at h1
 have h2:r.data.size=r.size:=rfl
 omega
theorem Z53 (r:ByteArray)(h:0<r.size):(Z4F r).size<r.size:=by
 unfold Z4F
 have h1:1≤Z4B r:=by unfold Z4B;omega
 rw [ByteArray.size_extract]
 omega
theorem scanF_nil (f:Nat)(r:ByteArray)(h:r.size=0):Z2u f r=some []:=by
 cases f with
 | zero=>rfl
 | succ f=>unfold Z2u;rw [dif_neg (by omega)]
theorem Tryz.infoTok:(Tryz.prog.info? 362).map (fun i=>(i.zero,i.size,i.bytes))=some (some (.agg #[.int .i64 0,.string ⟨#[]⟩,.int .i64 0]),3,32):=by kernel_rfl
def ScanEnd (n0:Nat) (w:World) (o:Option (List Tok)) (e:Ending) (w':World):Prop :=
 match o with
 | none=>e=.returned (.tuple #[.slice none 0 0,.bool false])∧Below n0 w w'
 | some ts=>∃ g cap,e=.returned (.tuple #[.slice (some ⟨g,0,none⟩) (ts.length+1:Nat) cap,.bool true])∧w'.ownsRow n0 362 3 (.slice (some ⟨g,0,none⟩) (ts.length+1) cap) (ts.length+1) (Z0S (ts ++ [endT]))∧Below n0 w w'
theorem Z71 {k:Int}{t:ByteArray}{v:Int}:∀ u∈[Value.int .i64 k,.string t,.int .i64 v],u.oneCell'=true:=by
 intro u hu
 simp at hu
 rcases hu with rfl | rfl | rfl <;> rfl
theorem Z3J (c:UInt8)(t:ByteArray)(h:c.toNat=32):Z2c c t=some none:=by unfold Z2c;rw [if_pos h]
theorem pieceK_bad (c:UInt8)(t:ByteArray)(h:¬ c.toNat=32)(hd:isD c=true)(hv:numOf t.data.toList=none):Z2c c t=none:=by unfold Z2c;rw [if_neg h,if_pos hd,hv];rfl
theorem Z5b (c:UInt8)(t:ByteArray)(v:Int)(h:¬ c.toNat=32)(hd:isD c=true)(hv:numOf t.data.toList=some v):Z2c c t=some (some ⟨2,t,v⟩):=by unfold Z2c;rw [if_neg h,if_pos hd,hv];rfl
theorem Z4s (c:UInt8)(t:ByteArray)(h:¬ c.toNat=32)(hd:isD c=false)(hw:isW c=true):Z2c c t=some (some ⟨1,t,0⟩):=by unfold Z2c;rw [if_neg h,if_neg (by simp [hd]),if_pos hw]
theorem pieceK_sign (c:UInt8)(t:ByteArray)(h:¬ c.toNat=32)(hd:isD c=false)(hw:isW c=false):Z2c c t=some (some ⟨3,t,0⟩):=by unfold Z2c;rw [if_neg h,if_neg (by simp [hd]),if_neg (by simp [hw])]
theorem _root_.Go.World.ownsRow.below3 {w w':World}{base:Nat}{e:TypeId}{size n:Nat}{v:Value}{xs:List Value}(h:w.ownsRow base e size v n xs)(hb:Below w.heap.size w w'):w'.ownsRow base e size v n xs :=
 by
 obtain ⟨h1,h2 | ⟨g,cap,cur,rfl,hg,h3⟩⟩:=id h
 ·exact ⟨h1,.inl h2⟩
 ·exact h.kept (row:=none) ⟨hb.os,hb.tape,hb.output,hb.size,fun k hk _=>hb.block k hk⟩ (.inr (by simp [Value.ownBlock]))
theorem scan_any (s:ByteArray)(w:World)(hs:s.size≤1000000) :
  Calls Tryz.prog 231 #[.string s] w (ScanEnd w.heap.size w (Z2u s.size (capS s))):=by
 obtain ⟨i0,hi,hz0,hz1,hz2⟩:=info_parts Tryz.infoTok
 obtain ⟨R,hR⟩:∃ R,Z2u s.size (capS s)=R:=⟨_,rfl⟩
 rw [hR]
 have HR0:=Z0a hR
 have hcs:(capS s).size=s.size:=by unfold capS;show (s.data.map capB).size=_;rw [Array.size_map];rfl
 clear hR
 go_enter Tryz.func231,Tryz.ntmps231
 go_wp2_with fail
 refine (capitals_any s _ hs).mono ?_
 rintro e w1 ⟨rfl,hb1⟩
 have hs1:=hb1.size
 go_wp2_with fail
 go_loopw [4,5] (fun v vr wr=>∃ (r:ByteArray) (acc:List Tok) (f:Nat),vr=.string r∧r.size≤f∧acc.length+r.size≤s.size∧Hid ((Z2u f r).map (acc ++ ·)=R)∧wr.ownsRow w.heap.size 362 3 v acc.length (Z0S acc)∧Below w.heap.size w wr) (fun _ vr _=>match vr with | .string r=>r.size | _=>0)
 case atStart=>exact ⟨capS s,[],s.size,by simp,by omega,by simp;omega,Z0a (by rw [HR0.out];simp),World.ownsRow_nil _ _ _ _,hb1⟩
 case round =>
  obtain ⟨r,acc,f,rfl,hrf,hal,HR,hrow,hb⟩:=hrel
  have hsw:=hb.size
  by_cases hp:0<r.size
  ·have hem:r.toList.isEmpty=false:=by rw [Z0t,decide_eq_false_iff_not];omega
   obtain ⟨m,hm⟩:∃ m,runN r.data.toList=m:=⟨_,rfl⟩
   obtain ⟨n,hn⟩:∃ n,Z4B r=n:=⟨_,rfl⟩
   have hnr:=pieceN_le r hp
   rw [hn] at hnr
   have hmx:max (m:Int) 1=(n:Int):=by
    rw [←hn,← hm];unfold Z4B;omega
   have HRL:=Z0a (fun w=>show Calls Tryz.prog 272 #[.string r] w fun e w'=>e=.returned (.int .i64 (m:Nat))∧w'=w by rw [←hm];exact Z8m r w (by omega))
   clear hm
   obtain ⟨c,hc⟩:∃ c,r[0]=c:=⟨_,rfl⟩
   have hpt:Z7M r=r.extract 0 n:=by unfold Z7M;rw [hn]
   have hpr:Z4F r=r.extract n r.size:=by unfold Z4F;rw [hn]
   have hps:=Z53 r hp
   rw [hpr] at hps
   obtain ⟨f',rfl⟩:∃ f',f=f'+1:=⟨f-1,by omega⟩
   have hstep:R=((Z2c c (r.extract 0 n)).bind fun o=>(Z2u f' (r.extract n r.size)).map (optL o ++ ·)).map (acc ++ ·):=by
    rw [←HR.out]
    conv=>lhs;unfold Z2u
    rw [dif_pos hp,hc,hpt,hpr]
   have HST:=Z0a hstep
   obtain ⟨rn,hrn⟩:∃ rn,r.extract n r.size=rn:=⟨_,rfl⟩
   obtain ⟨tx,htx⟩:∃ tx,r.extract 0 n=tx:=⟨_,rfl⟩
   have htxs:tx.size≤1000000:=by rw [←htx,ByteArray.size_extract];omega
   rw [hrn,htx] at HST
   rw [hrn] at hps
   have HRN:=Z0a hrn
   have HTX:=Z0a htx
   clear hn hpt hpr hstep hrn htx HR
   go_wp2_with (refine (HRL.out _).mono ?_;rintro e w2 ⟨rfl,rfl⟩)
   go_quiet (fail)
   have hbd:Below w.heap.size w (w2.drewN nq):=below_drewN hb nq
   have hrowd:(w2.drewN nq).ownsRow w.heap.size 362 3 u4 acc.length (Z0S acc):=hrow
   clear hrow hb
   generalize w2.drewN nq=wd at *
   have hrow:=hrowd
   have hzd:=hbd.size
   clear hrowd
   rw [HTX.out]
   have hrn0:=HRN.out
   by_cases h32:c.toNat=32
   ·have i32:((c.toNat:Int) == 32)=true:=by simp [h32]
    go_wp2_with fail
    refine ⟨⟨rn,acc,f',by simp,by omega,by omega,Z0a ?_,hrow,hbd⟩,by simp;omega⟩
    rw [HST.out,Z3J c tx h32]
    simp [optL]
   ·have i32:((c.toNat:Int) == 32)=false:=by simp;omega
    have HID:=Z0a (Z6B c)
    cases hd:isD c with
    | true =>
     rw [hd] at HID
     have HRD:=Z0a (fun w=>Z7i tx w htxs)
     cases hv:numOf tx.data.toList with
     | none =>
      rw [hv] at HRD
      have HE:=Z0a (show R=none by rw [HST.out,pieceK_bad c tx h32 hd hv];rfl)
      go_wp2_with (first | (go_at_call 273;refine (HID.out _).mono ?_;rintro e w3 ⟨rfl,hw3⟩;rw [hw3];clear hw3) | (go_at_call 274;refine (HRD.out _).mono ?_;rintro e w3 ⟨rfl,hb3⟩;unfold numE))
      go_ret2
      rw [HE.out]
      exact ⟨rfl,hbd.trans (hb3.mono hzd)⟩
     | some v =>
      rw [hv] at HRD
      go_wp2_with (first | (go_at_call 273;refine (HID.out _).mono ?_;rintro e w3 ⟨rfl,hw3⟩;rw [hw3];clear hw3) | (go_at_call 274;refine (HRD.out _).mono ?_;rintro e w3 ⟨rfl,hb3⟩;unfold numE;have hz3:=hb3.size) | (at_builtin;refine wpList_append_own _ rfl _ _ 326 rfl w.heap.size 362 i0 _ 3 32 Tryz.underlying326 hi hz0 hz1 hz2 rfl (by decide) _ _ _ rfl ((hrow.below3 hb3).alloc _) ⟨w3.heap.size,0,none⟩ 1 1 [.int .i64 2,.string tx,.int .i64 v] rfl rfl ?c1 ?c2 ?c3 ?c4 ?c5 ?_))
      case c1 =>
       intro j u hj
       match j,hj with
       | 0,hj=>simp at hj;subst hj;simp [Addr.add]
       | 1,hj=>simp at hj;subst hj;simp [Addr.add]
       | 2,hj=>simp at hj;subst hj;simp [Addr.add]
      case c2=>exact Z71
      case c3=>unfold maxLen;omega
      case c4=>omega
      case c5=>simp;omega
      intro v' wn hown' hgrow _
      have hbn:Below w.heap.size w wn:=((hbd.trans (hb3.mono hzd)).alloc (by have:=hb3.size;omega) _).grown hgrow (by simp;omega) (Z6V hrow)
      have hrn':wn.ownsRow w.heap.size 362 3 v' (acc ++ [(⟨2,tx,v⟩:Tok)]).length (Z0S (acc ++ [(⟨2,tx,v⟩:Tok)])):=by
       rw [Z2j,List.length_append]
       exact hown'
      clear hown' hgrow
      go_wp2
      go_roundw
      case rel =>
       refine ⟨rn,acc ++ [(⟨2,tx,v⟩:Tok)],f',by simp,by omega,by simp;omega,Z0a ?_,hrn',hbn⟩
       rw [HST.out,Z5b c tx v h32 hd hv]
       simp [optL,Option.map_map,Function.comp_def]
      case measure=>simp;omega
    | false =>
     rw [hd] at HID
     have HIW:=Z0a (Z5w c)
     cases hw:isW c with
     | true =>
      rw [hw] at HIW
      go_wp2_with (first | (go_at_call 273;refine (HID.out _).mono ?_;rintro e w3 ⟨rfl,hw3⟩;rw [hw3];clear hw3) | (go_at_call 275;refine (HIW.out _).mono ?_;rintro e w3 ⟨rfl,hw3⟩;rw [hw3];clear hw3) | (at_builtin;refine wpList_append_own _ rfl _ _ 326 rfl w.heap.size 362 i0 _ 3 32 Tryz.underlying326 hi hz0 hz1 hz2 rfl (by decide) _ _ _ rfl (hrow.alloc _) ⟨wd.heap.size,0,none⟩ 1 1 [.int .i64 1,.string tx,.int .i64 0] rfl rfl ?c1 ?c2 ?c3 ?c4 ?c5 ?_))
      case c1 =>
       intro j u hj
       match j,hj with
       | 0,hj=>simp at hj;subst hj;simp [Addr.add]
       | 1,hj=>simp at hj;subst hj;simp [Addr.add]
       | 2,hj=>simp at hj;subst hj;simp [Addr.add]
      case c2=>exact Z71
      case c3=>unfold maxLen;omega
      case c4=>omega
      case c5=>simp;omega
      intro v' wn hown' hgrow _
      have hbn:Below w.heap.size w wn:=(hbd.alloc (by omega) _).grown hgrow (by simp;omega) (Z6V hrow)
      have hrn':wn.ownsRow w.heap.size 362 3 v' (acc ++ [(⟨1,tx,0⟩:Tok)]).length (Z0S (acc ++ [(⟨1,tx,0⟩:Tok)])):=by
       rw [Z2j,List.length_append]
       exact hown'
      clear hown' hgrow
      go_wp2
      go_roundw
      case rel =>
       refine ⟨rn,acc ++ [(⟨1,tx,0⟩:Tok)],f',by simp,by omega,by simp;omega,Z0a ?_,hrn',hbn⟩
       rw [HST.out,Z4s c tx h32 hd hw]
       simp [optL,Option.map_map,Function.comp_def]
      case measure=>simp;omega
     | false =>
      rw [hw] at HIW
      go_wp2_with (first | (go_at_call 273;refine (HID.out _).mono ?_;rintro e w3 ⟨rfl,hw3⟩;rw [hw3];clear hw3) | (go_at_call 275;refine (HIW.out _).mono ?_;rintro e w3 ⟨rfl,hw3⟩;rw [hw3];clear hw3) | (at_builtin;refine wpList_append_own _ rfl _ _ 326 rfl w.heap.size 362 i0 _ 3 32 Tryz.underlying326 hi hz0 hz1 hz2 rfl (by decide) _ _ _ rfl (hrow.alloc _) ⟨wd.heap.size,0,none⟩ 1 1 [.int .i64 3,.string tx,.int .i64 0] rfl rfl ?c1 ?c2 ?c3 ?c4 ?c5 ?_))
      case c1 =>
       intro j u hj
       match j,hj with
       | 0,hj=>simp at hj;subst hj;simp [Addr.add]
       | 1,hj=>simp at hj;subst hj;simp [Addr.add]
       | 2,hj=>simp at hj;subst hj;simp [Addr.add]
      case c2=>exact Z71
      case c3=>unfold maxLen;omega
      case c4=>omega
      case c5=>simp;omega
      intro v' wn hown' hgrow _
      have hbn:Below w.heap.size w wn:=(hbd.alloc (by omega) _).grown hgrow (by simp;omega) (Z6V hrow)
      have hrn':wn.ownsRow w.heap.size 362 3 v' (acc ++ [(⟨3,tx,0⟩:Tok)]).length (Z0S (acc ++ [(⟨3,tx,0⟩:Tok)])):=by
       rw [Z2j,List.length_append]
       exact hown'
      clear hown' hgrow
      go_wp2
      go_roundw
      case rel =>
       refine ⟨rn,acc ++ [(⟨3,tx,0⟩:Tok)],f',by simp,by omega,by simp;omega,Z0a ?_,hrn',hbn⟩
       rw [HST.out,pieceK_sign c tx h32 hd hw]
       simp [optL,Option.map_map,Function.comp_def]
      case measure=>simp;omega
  ·have hz:r.size=0:=by omega
   have hem:r.toList.isEmpty=true:=by rw [Z0t];simp [hz]
   have HE:=Z0a (show R=some acc by rw [←HR.out,scanF_nil _ _ hz];simp)
   go_wp2_with (at_builtin;refine wpList_append_own _ rfl _ _ 326 rfl w.heap.size 362 i0 _ 3 32 Tryz.underlying326 hi hz0 hz1 hz2 rfl (by decide) _ _ _ rfl (hrow.alloc _) ⟨wr.heap.size,0,none⟩ 1 1 [.int .i64 0,.string ⟨#[]⟩,.int .i64 0] rfl rfl ?c1 ?c2 ?c3 ?c4 ?c5 ?_)
   case c1 =>
    intro j u hj
    match j,hj with
    | 0,hj=>simp at hj;subst hj;simp [Addr.add]
    | 1,hj=>simp at hj;subst hj;simp [Addr.add]
    | 2,hj=>simp at hj;subst hj;simp [Addr.add]
   case c2=>exact Z71
   case c3=>unfold maxLen;omega
   case c4=>omega
   case c5=>simp;omega
   intro v' wn hown' hgrow _
   have hbn:Below w.heap.size w wn:=(hb.alloc (by omega) _).grown hgrow (by simp;omega) (Z6V hrow)
   have hrn':wn.ownsRow w.heap.size 362 3 v' (acc.length+1) (Z0S (acc ++ [endT])):=by
    rw [Z2j]
    exact hown'
   clear hown' hgrow
   go_wp2
   go_ret2
   rw [HE.out]
   obtain ⟨_,⟨_,h'⟩ | ⟨g,cap,cur,rfl,_⟩⟩:=id hrn'
   ·omega
   ·exact ⟨g,cap,rfl,hrn',hbn⟩
end Go.Proofs.YthokdbcpkmcieabGreatDoor
