import Derived.Test.YthokdbcpkmcieaaGreatDoorRows
import Derived.Test.YthokdbcpkmcieaaGreatDoorH01
import Derived.WalkLawsBesides
import Derived.Shelf.Strings.OnBuilder
import Derived.Shelf.Strconv.Itoa3
import Derived.Shelf.Strings.Cut
import Derived.Shelf.Strings.Split
import Derived.OpenShut
import Derived.BigQuiet
import Derived.Deep.WholeRow
set_option maxRecDepth 200000
set_option maxHeartbeats 16000000
namespace Go.Proofs.YthokdbcpkmcieaaGreatDoor
open RowKit Shelf Proofs.Tryz
abbrev nL:=@Calls.quiet_of_same
abbrev mr:=@heap_alloc_last
abbrev nN:=@World.setRow_alloc_new
def hd(n:Int):UInt8:=(#[48,49,50,51,52,53,54,55,56,57,65,66,67,68,69,70]:Array UInt8).getD (n%16).toNat 0
theorem uj(n:Int)(hn:0<=n)(A:n<=65535):IntKind.u16.wrap (n.tdiv 16)=n/16:=by
 rw[ox hn];unfold IntKind.wrap;simp[IntKind.bits];omega
theorem Ad(n m:Int)(hn:0<=n)(A:n<=65535)(e:IntKind.u16.wrap (n.tdiv 16)=m):m=n/16:=by rw[<-e,uj n hn A]
theorem FO(n:Int)(h:(n%16).toNat<(ByteArray.mk #[48,49,50,51,52,53,54,55,56,57,65,66,67,68,69,70]).size):(ByteArray.mk #[48,49,50,51,52,53,54,55,56,57,65,66,67,68,69,70])[(n%16).toNat]=hd n:=by
 unfold hd;have h':(n%16).toNat<(#[48,49,50,51,52,53,54,55,56,57,65,66,67,68,69,70]:Array UInt8).size:=h;rw[nK,nX h'];rfl
theorem qY{a b:ByteArray}(h:a=b):Ending.returned (.string a)=.returned (.string b):=by rw[h]
theorem sG(a b:Array UInt8):ByteArray.mk a++ByteArray.mk b=ByteArray.mk (a++b):=by
 apply mI;exact oy
theorem Z3H(x y:UInt8):strOfNums [(x.toNat:Int),(y.toNat:Int)]=⟨#[x,y]⟩:=by
 rw[strOfNums];simp
theorem Z9l(x y z u:UInt8):strOfNums [(x.toNat:Int),(y.toNat:Int),(z.toNat:Int),(u.toNat:Int)]=⟨#[x,y,z,u]⟩:=by
 rw[strOfNums];simp
theorem Z2l(x y:Int)(w:World):(convert 32 9 (.slice (some ⟨w.heap.size,0,none⟩) 2 2)).run prog (w.alloc (.cells #[.int .u8 x,.int .u8 y] 5))=.ok (.string (strOfNums [x,y])) (w.alloc (.cells #[.int .u8 x,.int .u8 y] 5)):=
 T0N (P:=prog) _ 32 5 underlying32 underlying5 w.heap.size 0 2 2 [x,y] rfl (fun i hi=>by
  match i,hi with
  |0,_=>simp
  | 1,_=>simp) 9 underlying9
theorem Z1m(x y z u:Int)(w:World):(convert 32 9 (.slice (some ⟨w.heap.size,0,none⟩) 4 4)).run prog (w.alloc (.cells #[.int .u8 x,.int .u8 y,.int .u8 z,.int .u8 u] 5))=.ok (.string (strOfNums [x,y,z,u])) (w.alloc (.cells #[.int .u8 x,.int .u8 y,.int .u8 z,.int .u8 u] 5)):=
 T0N (P:=prog) _ 32 5 underlying32 underlying5 w.heap.size 0 4 4 [x,y,z,u] rfl (fun i hi=>by
  match i,hi with
  |0,_=>simp
  |1,_=>simp
  |2,_=>simp
  | 3,_=>simp) 9 underlying9
theorem Z9E(n:Int)(hn:0<=n)(Rt:n<=65535)(w:World) :
  Calls prog 112 #[.int .u16 n,.int .i64 2] w fun e w'=>e=.returned (.string ⟨#[hd (n/16),hd n]⟩)/\Below w.heap.size w w':=by
 have A:∀w,(Instr.makeSlice 32 (.int .i64 2) (.int .i64 2)).run prog w=.ok (.slice (some ⟨w.heap.size,0,none⟩) 2 2) (w.alloc (.cells #[.int .u8 0,.int .u8 0] 5)):=fun _=>aj
 obtain⟨n1,e1,b1,c1⟩:∃m,IntKind.u16.wrap (n.tdiv 16)=m/\0<=m/\m<=65535:=⟨_,rfl,de,de⟩;obtain⟨D,e2,b2,c2⟩:∃m,IntKind.u16.wrap (n1.tdiv 16)=m/\0<=m/\m<=65535:=⟨_,rfl,dh,dh⟩;have G:=Z2l;go_enter func112,ntmps112;go_wp2;refine lS 3 ?_;rw[kG];go_wp2;rw[kG];go_wp2;rw[kG];go_wp2;go_ret;refine⟨qY ?_,jV.alloc jU _⟩;rw[<-Ad n n1 hn Rt e1];simp only[FO];exact Z3H _ _
theorem AK(n:Int)(hn:0<=n)(Rt:n<=65535)(w:World) :
  Calls prog 112 #[.int .u16 n,.int .i64 4] w fun e w'=>e=.returned (.string ⟨#[hd (n/4096),hd (n/256),hd (n/16),hd n]⟩)/\Below w.heap.size w w':=by
 have G:∀w,(Instr.makeSlice 32 (.int .i64 4) (.int .i64 4)).run prog w=.ok (.slice (some ⟨w.heap.size,0,none⟩) 4 4) (w.alloc (.cells #[.int .u8 0,.int .u8 0,.int .u8 0,.int .u8 0] 5)):=fun _=>aj
 obtain⟨n1,e1,b1,c1⟩:∃m,IntKind.u16.wrap (n.tdiv 16)=m/\0<=m/\m<=65535:=⟨_,rfl,de,de⟩;obtain⟨A,e2,b2,c2⟩:∃m,IntKind.u16.wrap (n1.tdiv 16)=m/\0<=m/\m<=65535:=⟨_,rfl,dh,dh⟩;obtain⟨D,e3,b3,c3⟩:∃m,IntKind.u16.wrap (A.tdiv 16)=m/\0<=m/\m<=65535:=⟨_,rfl,by rw[uj A b2 c2];omega,by rw[uj A b2 c2];omega⟩;obtain⟨I,J,b4,c4⟩:∃m,IntKind.u16.wrap (D.tdiv 16)=m/\0<=m/\m<=65535:=⟨_,rfl,by rw[uj D b3 c3];omega,by rw[uj D b3 c3];omega⟩;have M:=Z1m;go_enter func112,ntmps112;go_wp2;refine lS 5 ?_;rw[kG];go_wp2;rw[kG];go_wp2;rw[kG];go_wp2;rw[kG];go_wp2;rw[kG];go_wp2;go_ret;refine⟨qY ?_,jV.alloc jU _⟩;have d1:=Ad n n1 hn Rt e1;have d2:=Ad n1 A b1 c1 e2;have d3:=Ad A D b2 c2 e3;rw[show n/4096=D by omega,show n/256=A by omega,show n/16=n1 by omega];simp only[FO];exact Z9l _ _ _ _
def qd(k:Nat):ByteArray:=([⟨#[65]⟩,⟨#[65,66]⟩,⟨#[67]⟩,⟨#[68,80,84,82]⟩,⟨#[64,65,43,68,80,84,82]⟩,⟨#[64,65,43,80,67]⟩,⟨#[64,68,80,84,82]⟩,⟨#[64,82]⟩,⟨#[82]⟩,⟨#[35,98,121,116,101]⟩,⟨#[35,119,111,114,100]⟩,⟨#[100,105,114]⟩,⟨#[98,105,116]⟩,⟨#[47,98,105,116]⟩,⟨#[97,100,100,114]⟩,⟨#[114,101,108]⟩,⟨#[112,97,103,101]⟩]:List ByteArray).getD k ⟨#[]⟩
def pw(k:Nat):Nat:=([0,0,0,0,0,0,0,0,0,1,2,1,1,1,2,1,1]:List Nat).getD k 0
def bAt(b:ByteArray)(i:Nat):Int:=((b.data.getD i 0).toNat:Int)
theorem vd(b:ByteArray)(i:Nat)(h:i<b.size):((b[i]).toNat:Int)=bAt b i:=by
 unfold bAt;have h':i<b.data.size:=h;rw[nK,nX h'];rfl
theorem zD(b:ByteArray)(i:Nat):0<=bAt b i/\bAt b i<=255:=by
 unfold bAt;have:=(b.data.getD i 0).toNat_lt;omega
def h4(x:Int):List UInt8:=[hd (x/4096),hd (x/256),hd (x/16),hd x]
def h2(x:Int):List UInt8:=[hd (x/16),hd x]
def uJ(ks:List Nat):List (List UInt8):=ks.map fun k=>(qd k).data.toList
def pv(ks:List Nat):Nat:=1+(ks.map pw).sum
theorem CT(k:Nat):pw k<=2:=by
 unfold pw;rw[jZ];cases h:([0,0,0,0,0,0,0,0,0,1,2,1,1,1,2,1,1]:List Nat)[k]? with
 |none=>simp
 |some x=>
  have A:([0,0,0,0,0,0,0,0,0,1,2,1,1,1,2,1,1]:List Nat).all (fun x=>decide (x<=2))=true:=ah;have:=kx.1 A x (lT h);simpa using this
theorem CH(ks:List Nat):(ks.map pw).sum<=2*ks.length:=by
 induction ks with
 |nil=>simp
 |cons k ks ih=>have:=CT k;simp only[kZ,T0n,kh];omega
theorem Fu(ks:List Nat)(k:Nat)(h:k<ks.length):((ks.take (k+1)).map pw).sum=((ks.take k).map pw).sum+pw (ks.getD k 0):=by
 rw[T0O h,l7,T0o,jZ,jX h];simp
def pD(ks:List Nat)(i:Nat):Nat:=1+((ks.take i).map pw).sum
theorem A1(ks:List Nat)(i:Nat)(h:i<ks.length):pD ks (i+1)=pD ks i+pw (ks.getD i 0):=by
 unfold pD;rw[Fu ks i h];omega
theorem Z4O(ks:List Nat)(i:Nat)(h:i<ks.length):pD ks i+pw (ks.getD i 0)<=pv ks:=by
 rw[<-A1 ks i h];unfold pD pv
 have:((ks.take (i+1)).map pw).sum+((ks.drop (i+1)).map pw).sum=(ks.map pw).sum:=by
  rw[<-T0o,<- l7,nB]
 omega
end Go.Proofs.YthokdbcpkmcieaaGreatDoor
namespace Go.Proofs
open RowKit Shelf Proofs.Tryz
def Tryz.lays145_ren:Go.Shelf.Ren:=⟨fun| 145=>100|220=>136|219=>189|217=>232|225=>233|224=>234|267=>235|266=>264|314=>265|n=>n,fun| 9=>9|4=>4|59=>192|3=>3|5=>5|46=>284|146=>350|51=>349|n=>n,fun| 1=>0|n=>n⟩
theorem Tryz.lays145:Go.Proofs.Lays.n145 Tryz.prog Tryz.lays145_ren:={
 mixed:=by kernel_rfl
 f145:=Tryz.func100.trans (congrArg some (by kernel_rfl))
 f217:=Tryz.func232.trans (congrArg some (by kernel_rfl))
 f219:=Tryz.func189.trans (congrArg some (by kernel_rfl))
 f220:=Tryz.func136.trans (congrArg some (by kernel_rfl))
 f224:=Tryz.func234.trans (congrArg some (by kernel_rfl))
 f225:=Tryz.func233.trans (congrArg some (by kernel_rfl))
 f266:=Tryz.func264.trans (congrArg some (by kernel_rfl))
 f267:=Tryz.func235.trans (congrArg some (by kernel_rfl))
 f314:=Tryz.func265.trans (congrArg some (by kernel_rfl))
 t3:=Tryz.underlying3
 a3:=Tryz.isAgg3
 z3:=Tryz.sizeOf3
 v3:=Tryz.zeroValue3
 t4:=Tryz.underlying4
 a4:=Tryz.isAgg4
 z4:=Tryz.sizeOf4
 v4:=Tryz.zeroValue4
 t5:=Tryz.underlying5
 a5:=Tryz.isAgg5
 z5:=Tryz.sizeOf5
 v5:=Tryz.zeroValue5
 t9:=Tryz.underlying9
 a9:=Tryz.isAgg9
 z9:=Tryz.sizeOf9
 v9:=Tryz.zeroValue9
 t46:=Tryz.underlying284
 a46:=Tryz.isAgg284
 z46:=Tryz.sizeOf284
 v46:=Tryz.zeroValue284
 t51:=Tryz.underlying349
 a51:=Tryz.isAgg349
 z51:=Tryz.sizeOf349
 v51:=Tryz.zeroValue349
 t59:=Tryz.underlying192
 a59:=Tryz.isAgg192
 z59:=Tryz.sizeOf192
 v59:=Tryz.zeroValue192
 t146:=Tryz.underlying350
 a146:=Tryz.isAgg350
 z146:=Tryz.sizeOf350
 v146:=Tryz.zeroValue350
 g1:=by kernel_rfl}
open Go.RowKit Go.Lib in
theorem Tryz.strings_Cut(s sep:ByteArray)(m:Int)(w:World)(hs:s.size<4294967281)(hm:w.cell? ⟨0,0,none⟩=some (.int .i64 m)) :
  Calls Tryz.prog 100 #[.string s,.string sep] w fun e w'=>e=.returned (.tuple #[.string ⟨(Lib.cut s.data.toList sep.data.toList).1.toArray⟩,.string ⟨(Lib.cut s.data.toList sep.data.toList).2.1.toArray⟩,.bool (Lib.cut s.data.toList sep.data.toList).2.2])/\∃n,w'=w.drewN n:=Any.strings_Cut Tryz.lays145 s sep m w hs hm
def Tryz.lays146_ren:Go.Shelf.Ren:=⟨fun| 146=>101|221=>137|268=>190|138=>191|143=>192|195=>236|197=>237|218=>238|219=>189|260=>266|217=>232|225=>233|224=>234|267=>235|266=>264|314=>265|n=>n,fun| 9=>9|31=>22|3=>3|4=>4|0=>0|105=>318|21=>21|5=>5|46=>284|119=>367|139=>370|138=>369|146=>350|51=>349|n=>n,fun| 1=>0|3=>1|4=>2|n=>n⟩
theorem Tryz.lays146:Go.Proofs.Lays.n146 Tryz.prog Tryz.lays146_ren:={
 mixed:=by kernel_rfl
 f138:=Tryz.func191.trans (congrArg some (by kernel_rfl))
 f143:=Tryz.func192.trans (congrArg some (by kernel_rfl))
 f146:=Tryz.func101.trans (congrArg some (by kernel_rfl))
 f195:=Tryz.func236.trans (congrArg some (by kernel_rfl))
 f197:=Tryz.func237.trans (congrArg some (by kernel_rfl))
 f217:=Tryz.func232.trans (congrArg some (by kernel_rfl))
 f218:=Tryz.func238.trans (congrArg some (by kernel_rfl))
 f219:=Tryz.func189.trans (congrArg some (by kernel_rfl))
 f221:=Tryz.func137.trans (congrArg some (by kernel_rfl))
 f224:=Tryz.func234.trans (congrArg some (by kernel_rfl))
 f225:=Tryz.func233.trans (congrArg some (by kernel_rfl))
 f260:=Tryz.func266.trans (congrArg some (by kernel_rfl))
 f266:=Tryz.func264.trans (congrArg some (by kernel_rfl))
 f267:=Tryz.func235.trans (congrArg some (by kernel_rfl))
 f268:=Tryz.func190.trans (congrArg some (by kernel_rfl))
 f314:=Tryz.func265.trans (congrArg some (by kernel_rfl))
 t0:=Tryz.underlying0
 a0:=Tryz.isAgg0
 z0:=Tryz.sizeOf0
 v0:=Tryz.zeroValue0
 t3:=Tryz.underlying3
 a3:=Tryz.isAgg3
 z3:=Tryz.sizeOf3
 v3:=Tryz.zeroValue3
 t4:=Tryz.underlying4
 a4:=Tryz.isAgg4
 z4:=Tryz.sizeOf4
 v4:=Tryz.zeroValue4
 t5:=Tryz.underlying5
 a5:=Tryz.isAgg5
 z5:=Tryz.sizeOf5
 v5:=Tryz.zeroValue5
 t9:=Tryz.underlying9
 a9:=Tryz.isAgg9
 z9:=Tryz.sizeOf9
 v9:=Tryz.zeroValue9
 t21:=Tryz.underlying21
 a21:=Tryz.isAgg21
 z21:=Tryz.sizeOf21
 v21:=Tryz.zeroValue21
 t31:=Tryz.underlying22
 a31:=Tryz.isAgg22
 z31:=Tryz.sizeOf22
 v31:=Tryz.zeroValue22
 t46:=Tryz.underlying284
 a46:=Tryz.isAgg284
 z46:=Tryz.sizeOf284
 v46:=Tryz.zeroValue284
 t51:=Tryz.underlying349
 a51:=Tryz.isAgg349
 z51:=Tryz.sizeOf349
 v51:=Tryz.zeroValue349
 t105:=Tryz.underlying318
 a105:=Tryz.isAgg318
 z105:=Tryz.sizeOf318
 v105:=Tryz.zeroValue318
 t119:=Tryz.underlying367
 a119:=Tryz.isAgg367
 z119:=Tryz.sizeOf367
 t138:=Tryz.underlying369
 a138:=Tryz.isAgg369
 z138:=Tryz.sizeOf369
 v138:=Tryz.zeroValue369
 t139:=Tryz.underlying370
 a139:=Tryz.isAgg370
 z139:=Tryz.sizeOf370
 v139:=Tryz.zeroValue370
 t146:=Tryz.underlying350
 a146:=Tryz.isAgg350
 z146:=Tryz.sizeOf350
 v146:=Tryz.zeroValue350
 g1:=by kernel_rfl
 g3:=by kernel_rfl
 g4:=by kernel_rfl}
open Go.RowKit Go.Lib in
theorem Tryz.strings_Split(s sep:ByteArray)(m:Int)(w:World)(hs:s.size<4294967281)(hm:w.cell? ⟨0,0,none⟩=some (.int .i64 m))(h1:1<=sep.size) :
  Calls Tryz.prog 101 #[.string s,.string sep] w fun e w'=>
   e=.returned (.slice (some ⟨w.heap.size,0,none⟩) (Lib.countB s sep+1) (Lib.countB s sep+1))/\w'=w.alloc (.cells ((Lib.splitB sep 0 (Lib.countB s sep) s).map Value.string).toArray 9):=Any.strings_Split Tryz.lays146 (by kernel_rfl) s sep m w hs hm h1
def Tryz.lays156_ren:Go.Shelf.Ren:=⟨fun| 156=>103|165=>158|166=>159|169=>160|240=>197|241=>198|276=>240|277=>241|n=>n,fun| 31=>22|9=>9|3=>3|4=>4|0=>0|20=>20|72=>238|76=>241|70=>236|37=>32|75=>240|127=>287|164=>320|5=>5|80=>73|n=>n,fun| n=>n⟩
theorem Tryz.lays156:Go.Proofs.Lays.n156 Tryz.prog Tryz.lays156_ren:={
 mixed:=by kernel_rfl
 f156:=Tryz.func103.trans (congrArg some (by kernel_rfl))
 f165:=Tryz.func158.trans (congrArg some (by kernel_rfl))
 f166:=Tryz.func159.trans (congrArg some (by kernel_rfl))
 f169:=Tryz.func160.trans (congrArg some (by kernel_rfl))
 f240:=Tryz.func197.trans (congrArg some (by kernel_rfl))
 f241:=Tryz.func198.trans (congrArg some (by kernel_rfl))
 f276:=Tryz.func240.trans (congrArg some (by kernel_rfl))
 f277:=Tryz.func241.trans (congrArg some (by kernel_rfl))
 t0:=Tryz.underlying0
 a0:=Tryz.isAgg0
 z0:=Tryz.sizeOf0
 v0:=Tryz.zeroValue0
 t3:=Tryz.underlying3
 a3:=Tryz.isAgg3
 z3:=Tryz.sizeOf3
 v3:=Tryz.zeroValue3
 t4:=Tryz.underlying4
 a4:=Tryz.isAgg4
 z4:=Tryz.sizeOf4
 v4:=Tryz.zeroValue4
 t9:=Tryz.underlying9
 a9:=Tryz.isAgg9
 z9:=Tryz.sizeOf9
 v9:=Tryz.zeroValue9
 t20:=Tryz.underlying20
 a20:=Tryz.isAgg20
 z20:=Tryz.sizeOf20
 v20:=Tryz.zeroValue20
 t31:=Tryz.underlying22
 a31:=Tryz.isAgg22
 z31:=Tryz.sizeOf22
 v31:=Tryz.zeroValue22
 t37:=Tryz.underlying32
 a37:=Tryz.isAgg32
 z37:=Tryz.sizeOf32
 v37:=Tryz.zeroValue32
 t70:=Tryz.underlying236
 a70:=Tryz.isAgg236
 z70:=Tryz.sizeOf236
 v70:=Tryz.zeroValue236
 t72:=Tryz.underlying238
 a72:=Tryz.isAgg238
 z72:=Tryz.sizeOf238
 v72:=Tryz.zeroValue238
 t75:=Tryz.underlying240
 a75:=Tryz.isAgg240
 z75:=Tryz.sizeOf240
 v75:=Tryz.zeroValue240
 t76:=Tryz.underlying241
 a76:=Tryz.isAgg241
 z76:=Tryz.sizeOf241
 v76:=Tryz.zeroValue241
 t127:=Tryz.underlying287
 a127:=Tryz.isAgg287
 z127:=Tryz.sizeOf287
 v127:=Tryz.zeroValue287
 t164:=Tryz.underlying320
 a164:=Tryz.isAgg320
 z164:=Tryz.sizeOf320
 v164:=Tryz.zeroValue320}
theorem Tryz.Builder_Extra_156:Builder.Extra Tryz.prog Tryz.lays156_ren:={
 sizeBuilder:=by kernel_rfl
 liesBuilder:=by kernel_rfl
 t5:=Tryz.underlying5
 a5:=Tryz.isAgg5
 z5:=Tryz.sizeOf5
 v5:=Tryz.zeroValue5
 infoByte:=by kernel_rfl
 cellsByte:=by kernel_rfl
 sizeByte:=by kernel_rfl
 neB5:=by decide}
open Go.RowKit in
theorem Tryz.strings_Join(bk o c:Nat)(xs:List ByteArray)(sep:ByteArray)(w:World)(hcells:∀(j:Nat) x,xs[j]?=some x->w.cell? ⟨bk,o+j,none⟩=some (.string x))(hbk:bk<w.heap.size)(hN:xs.length<=140737488355328)(hcap:xs.length<=c)(hlen:(Lib.join (xs.map (·.data.toList)) sep.data.toList).length<=140737488355328) :
  Calls Tryz.prog 103 #[.slice (some ⟨bk,o,none⟩) xs.length c,.string sep] w fun e w'=>e=.returned (.string ⟨(Lib.join (xs.map (·.data.toList)) sep.data.toList).toArray⟩)/\Below w.heap.size w w':=Any.strings_Join Tryz.lays156 Tryz.Builder_Extra_156 bk o c xs sep w hcells hbk hN hcap hlen
def Tryz.lays171_ren:Go.Shelf.Ren:=⟨fun| 171=>193|243=>239|246=>267|283=>288|284=>289|285=>290|286=>291|129=>308|317=>307|318=>309|319=>310|320=>311|337=>321|338=>322|n=>n,fun| 3=>3|9=>9|2=>2|4=>4|171=>371|0=>0|53=>372|37=>32|5=>5|173=>375|212=>390|51=>349|20=>20|213=>391|46=>284|232=>405|233=>135|n=>n,fun| 17=>3|18=>6|19=>7|n=>n⟩
theorem Tryz.lays171:Go.Proofs.Lays.n171 Tryz.prog Tryz.lays171_ren:={
 mixed:=by kernel_rfl
 f129:=Tryz.func308.trans (congrArg some (by kernel_rfl))
 f171:=Tryz.func193.trans (congrArg some (by kernel_rfl))
 f243:=Tryz.func239.trans (congrArg some (by kernel_rfl))
 f246:=Tryz.func267.trans (congrArg some (by kernel_rfl))
 f283:=Tryz.func288.trans (congrArg some (by kernel_rfl))
 f284:=Tryz.func289.trans (congrArg some (by kernel_rfl))
 f285:=Tryz.func290.trans (congrArg some (by kernel_rfl))
 f286:=Tryz.func291.trans (congrArg some (by kernel_rfl))
 f317:=Tryz.func307.trans (congrArg some (by kernel_rfl))
 f318:=Tryz.func309.trans (congrArg some (by kernel_rfl))
 f319:=Tryz.func310.trans (congrArg some (by kernel_rfl))
 f320:=Tryz.func311.trans (congrArg some (by kernel_rfl))
 f337:=Tryz.func321.trans (congrArg some (by kernel_rfl))
 f338:=Tryz.func322.trans (congrArg some (by kernel_rfl))
 t0:=Tryz.underlying0
 a0:=Tryz.isAgg0
 z0:=Tryz.sizeOf0
 v0:=Tryz.zeroValue0
 t2:=Tryz.underlying2
 a2:=Tryz.isAgg2
 z2:=Tryz.sizeOf2
 v2:=Tryz.zeroValue2
 t3:=Tryz.underlying3
 a3:=Tryz.isAgg3
 z3:=Tryz.sizeOf3
 v3:=Tryz.zeroValue3
 t4:=Tryz.underlying4
 a4:=Tryz.isAgg4
 z4:=Tryz.sizeOf4
 v4:=Tryz.zeroValue4
 t5:=Tryz.underlying5
 a5:=Tryz.isAgg5
 z5:=Tryz.sizeOf5
 v5:=Tryz.zeroValue5
 t9:=Tryz.underlying9
 a9:=Tryz.isAgg9
 z9:=Tryz.sizeOf9
 v9:=Tryz.zeroValue9
 t20:=Tryz.underlying20
 a20:=Tryz.isAgg20
 z20:=Tryz.sizeOf20
 v20:=Tryz.zeroValue20
 t37:=Tryz.underlying32
 a37:=Tryz.isAgg32
 z37:=Tryz.sizeOf32
 v37:=Tryz.zeroValue32
 t46:=Tryz.underlying284
 a46:=Tryz.isAgg284
 z46:=Tryz.sizeOf284
 v46:=Tryz.zeroValue284
 t51:=Tryz.underlying349
 a51:=Tryz.isAgg349
 z51:=Tryz.sizeOf349
 v51:=Tryz.zeroValue349
 t53:=Tryz.underlying372
 a53:=Tryz.isAgg372
 z53:=Tryz.sizeOf372
 v53:=Tryz.zeroValue372
 t171:=Tryz.underlying371
 a171:=Tryz.isAgg371
 z171:=Tryz.sizeOf371
 v171:=Tryz.zeroValue371
 t173:=Tryz.underlying375
 a173:=Tryz.isAgg375
 z173:=Tryz.sizeOf375
 v173:=Tryz.zeroValue375
 t212:=Tryz.underlying390
 a212:=Tryz.isAgg390
 z212:=Tryz.sizeOf390
 v212:=Tryz.zeroValue390
 t213:=Tryz.underlying391
 a213:=Tryz.isAgg391
 z213:=Tryz.sizeOf391
 t232:=Tryz.underlying405
 a232:=Tryz.isAgg405
 z232:=Tryz.sizeOf405
 v232:=Tryz.zeroValue405
 t233:=Tryz.underlying135
 a233:=Tryz.isAgg135
 z233:=Tryz.sizeOf135
 v233:=Tryz.zeroValue135
 g17:=by kernel_rfl
 g18:=by kernel_rfl
 g19:=by kernel_rfl}
open Go.RowKit Go.Sort Go.Lib in
theorem Tryz.strconv_Itoa_small(i:Nat)(hi:i<100)(w:World) :
  Calls Tryz.prog 193 #[.int .i64 i] w fun e w'=>e=.returned (.string ⟨(Lib.decDigits i).toArray⟩)/\w'=w:=Any.strconv_Itoa_small Tryz.lays171 i hi w
def Tryz.laysM145_ren:Go.Shelf.Ren:=⟨fun| 145=>100|220=>136|219=>189|217=>232|225=>233|224=>234|267=>235|266=>264|314=>265|n=>n,fun| 9=>9|4=>4|59=>192|3=>3|5=>5|46=>284|146=>350|51=>349|n=>n,fun| 1=>0|n=>n⟩
theorem Tryz.laysM145:Go.Proofs.LaysM.n145 Tryz.prog Tryz.laysM145_ren:={
 mixed:=by kernel_rfl
 f145:=Tryz.func100.trans (congrArg some (by kernel_rfl))
 f217:=Tryz.func232.trans (congrArg some (by kernel_rfl))
 f219:=Tryz.func189.trans (congrArg some (by kernel_rfl))
 f220:=Tryz.func136.trans (congrArg some (by kernel_rfl))
 f224:=Tryz.func234.trans (congrArg some (by kernel_rfl))
 f225:=Tryz.func233.trans (congrArg some (by kernel_rfl))
 f266:=Tryz.func264.trans (congrArg some (by kernel_rfl))
 f267:=Tryz.func235.trans (congrArg some (by kernel_rfl))
 f314:=Tryz.func265.trans (congrArg some (by kernel_rfl))
 t3:=Tryz.underlying3
 a3:=Tryz.isAgg3
 z3:=Tryz.sizeOf3
 v3:=Tryz.zeroValue3
 t4:=Tryz.underlying4
 a4:=Tryz.isAgg4
 z4:=Tryz.sizeOf4
 v4:=Tryz.zeroValue4
 t5:=Tryz.underlying5
 a5:=Tryz.isAgg5
 z5:=Tryz.sizeOf5
 v5:=Tryz.zeroValue5
 t9:=Tryz.underlying9
 a9:=Tryz.isAgg9
 z9:=Tryz.sizeOf9
 v9:=Tryz.zeroValue9
 t46:=Tryz.underlying284
 a46:=Tryz.isAgg284
 z46:=Tryz.sizeOf284
 v46:=Tryz.zeroValue284
 t51:=Tryz.underlying349
 a51:=Tryz.isAgg349
 z51:=Tryz.sizeOf349
 v51:=Tryz.zeroValue349
 t59:=Tryz.underlying192
 a59:=Tryz.isAgg192
 z59:=Tryz.sizeOf192
 v59:=Tryz.zeroValue192
 t146:=Tryz.underlying350
 a146:=Tryz.isAgg350
 z146:=Tryz.sizeOf350
 v146:=Tryz.zeroValue350
 g1:=by kernel_rfl
 i3:=by kernel_rfl
 i4:=by kernel_rfl
 i5:=by kernel_rfl
 i9:=by kernel_rfl
 i46:=by kernel_rfl
 i51:=by kernel_rfl
 i59:=by kernel_rfl
 i146:=by kernel_rfl
 m1:=by kernel_rfl
 s1_3:=fun w h=>Go.Proofs.cell_of_shapedOpen_int (zero:=#[.int .i64 0]) (t:=3) h (of_decide_eq_true (by kernel_rfl)) (by kernel_rfl) rfl (by kernel_rfl) (by kernel_rfl) Tryz.underlying3}
end Go.Proofs
namespace Go.Proofs.YthokdbcpkmcieaaGreatDoor
open RowKit Shelf Proofs.Tryz
theorem Z4e(k:Int)(s:ByteArray)(b a h:Int)(w:World) :
  Calls prog 140 #[.agg #[.int .i64 k,.string s,.int .u8 b,.int .u16 a,.int .u16 h]] w fun e w'=>e=.returned (.string s)/\Below w.heap.size w w':=by
 go_enter func140,ntmps140;exact McO
theorem C2(k:Int)(s:ByteArray)(b a h:Int)(w:World)(h0:0<=a)(h1:a<=65535) :
  Calls prog 150 #[.agg #[.int .i64 k,.string s,.int .u8 b,.int .u16 a,.int .u16 h]] w fun e w'=>e=.returned (.string ⟨#[48,120,hd (a/16),hd a]⟩)/\Below w.heap.size w w':=by
 go_enter func150,ntmps150;go_wp2_with (go_at_call 112;refine(Z9E _ h0 h1 _).mono ?_;rintro e A ⟨rfl,hb⟩);exact Mcj
theorem JA(k:Int)(s:ByteArray)(b a h:Int)(w:World)(h0:0<=a)(h1:a<=65535) :
  Calls prog 153 #[.agg #[.int .i64 k,.string s,.int .u8 b,.int .u16 a,.int .u16 h]] w fun e w'=>e=.returned (.string ⟨#[48,120,hd (a/4096),hd (a/256),hd (a/16),hd a]⟩)/\Below w.heap.size w w':=by
 go_enter func153,ntmps153;go_wp2_with (go_at_call 112;refine(AK _ h0 h1 _).mono ?_;rintro e A ⟨rfl,hb⟩);exact Mcj
theorem Z35(k:Int)(s:ByteArray)(b a h:Int)(w:World)(h0:0<=a)(h1:a<=65535) :
  Calls prog 145 #[.agg #[.int .i64 k,.string s,.int .u8 b,.int .u16 a,.int .u16 h]] w fun e w'=>e=.returned (.string ⟨#[35,48,120,hd (a/16),hd a]⟩)/\Below w.heap.size w w':=by
 go_enter func145,ntmps145;exact Ma9
theorem Z7P(k:Int)(s:ByteArray)(b a h:Int)(w:World)(h0:0<=a)(h1:a<=65535) :
  Calls prog 151 #[.agg #[.int .i64 k,.string s,.int .u8 b,.int .u16 a,.int .u16 h]] w fun e w'=>e=.returned (.string ⟨#[47,48,120,hd (a/16),hd a]⟩)/\Below w.heap.size w w':=by
 go_enter func151,ntmps151;exact Ma9
theorem Z24(k:Int)(s:ByteArray)(b a h:Int)(w:World)(h0:0<=a)(h1:a<=65535) :
  Calls prog 148 #[.agg #[.int .i64 k,.string s,.int .u8 b,.int .u16 a,.int .u16 h]] w fun e w'=>e=.returned (.string ⟨#[35,48,120,hd (a/4096),hd (a/256),hd (a/16),hd a]⟩)/\Below w.heap.size w w':=by
 go_enter func148,ntmps148;go_wp2_with (go_at_call 153;refine(JA _ _ _ _ _ _ h0 h1).mono ?_;rintro e A ⟨rfl,hb⟩);exact Mcj
def sy(h a:Int):Int:=IntKind.u16.wrap (h+IntKind.u16.wrap (IntKind.i8.wrap a))
def sE(h b a:Int):Int:=bits BinOp.or IntKind.u16 (bits BinOp.or IntKind.u16 (bits BinOp.and IntKind.u16 h 63488) (IntKind.u16.wrap (IntKind.u16.wrap b*8))) a
theorem Z28(x:Int):0<=IntKind.u16.wrap x/\IntKind.u16.wrap x<=65535:=bounds_u16 (wf_wrap _ _)
theorem Z9B(h a:Int):0<=sy h a/\sy h a<=65535:=Z28 _
theorem Z6Z(h b a:Int):0<=sE h b a/\sE h b a<=65535:=bounds_u16 (wf_bits _ _ _ _)
theorem Z8f(k:Int)(s:ByteArray)(b a h:Int)(w:World) :
  Calls prog 155 #[.agg #[.int .i64 k,.string s,.int .u8 b,.int .u16 a,.int .u16 h]] w fun e w'=>e=.returned (.string ⟨#[48,120,hd (sy h a/4096),hd (sy h a/256),hd (sy h a/16),hd (sy h a)]⟩)/\Below w.heap.size w w':=by
 have hb:=Z9B h a;have HX:Hid (IntKind.u16.wrap (h+IntKind.u16.wrap (IntKind.i8.wrap a))=sy h a):=rfl;generalize sy h a=x at *;go_enter func155,ntmps155;exact Mba
theorem Z4m(k:Int)(s:ByteArray)(b a h:Int)(w:World) :
  Calls prog 157 #[.agg #[.int .i64 k,.string s,.int .u8 b,.int .u16 a,.int .u16 h]] w fun e w'=>e=.returned (.string ⟨#[48,120,hd (sE h b a/4096),hd (sE h b a/256),hd (sE h b a/16),hd (sE h b a)]⟩)/\Below w.heap.size w w':=by
 have hb:=Z6Z h b a;have HX:Hid (bits BinOp.or IntKind.u16 (bits BinOp.or IntKind.u16 (bits BinOp.and IntKind.u16 h 63488) (IntKind.u16.wrap (IntKind.u16.wrap b*8))) a=sE h b a):=rfl;generalize sE h b a=x at *;go_enter func157,ntmps157;exact Mba
theorem wrap_i64(b:Int)(h0:0<=b)(h1:b<1000000):IntKind.i64.wrap b=b:=wrap_small b h0 ae
def vH(b:Int):ByteArray:=⟨(Lib.decDigits b.toNat).toArray⟩
theorem GW(b:Int)(h0:0<=b)(h1:b<100):(vH b).size<=100:=by
 have A:∀n:Fin 100,(Lib.decDigits n.val).length<=100:=aq;have:=A ⟨b.toNat,ae⟩;simpa [vH,ByteArray.size]using this
theorem IS(b:Int)(h0:0<=b)(h1:b<100)(w:World) :
  Calls prog 193 #[.int .i64 (IntKind.i64.wrap b)] w fun e w'=>e=.returned (.string (vH b))/\w'=w:=by
 rw[wrap_i64 b h0 ae];obtain⟨n,rfl⟩:=nZ h0;exact Tryz.strconv_Itoa_small n ae w
theorem Z4S(b:Int)(h0:0<=b)(h1:b<100)(w:World) :
  Calls prog 193 #[.int .i64 b] w fun e w'=>e=.returned (.string (vH b))/\w'=w:=by
 have h:=IS b h0 h1 w;rw[wrap_i64 b h0 ae]at h;exact h
theorem Z09(k:Int)(s:ByteArray)(b a h:Int)(w:World)(h0:0<=b)(h1:b<100)(hs:s.size<=1000) :
  Calls prog 142 #[.agg #[.int .i64 k,.string s,.int .u8 b,.int .u16 a,.int .u16 h]] w fun e w'=>e=.returned (.string (s++vH b))/\Below w.heap.size w w':=by
 have hz:=GW b h0 h1;have A:∀w,(Op.stringOp .add s (vH b)).run prog w=.ok (.string (s++vH b)) w:=fun w=>mn w _ _ ae
 go_enter func142,ntmps142;go_wp2;go_quiet ((go_at_call 193;(first| exact nL (Z4S b h0 h1 _)|exact nL (IS b h0 h1 _))));go_wp2;go_ret;exact⟨rfl,below_drewN (jV.alloc jU _) _⟩
abbrev fv(f:Nat):Value:=.func (.func f) #[] #[]
def rA:Array Value:=#[fv 138,fv 139,fv 140,
 fv 138,fv 139,fv 140,
 fv 138,fv 139,fv 140,
 fv 138,fv 139,fv 140,
 fv 138,fv 139,fv 140,
 fv 138,fv 139,fv 140,
 fv 138,fv 139,fv 140,
 fv 141,fv 139,fv 142,
 fv 141,fv 139,fv 142,
 fv 143,fv 144,fv 145,
 fv 146,fv 147,fv 148,
 fv 149,fv 144,fv 150,
 fv 149,fv 144,fv 150,
 fv 149,fv 144,fv 151,
 fv 152,fv 147,fv 153,
 fv 154,fv 144,fv 155,
 fv 156,fv 144,fv 157]
theorem Z66{P:Program}{D:Func}{k:Nat}{t:TypeId}{tmps:Array Value}{A:Addr}{v:Value}{w:World}(h:D.results=#[.cell k t])(G:tmps.getD k undef=.pointer (some A))(I:(loadVar t A).run P w=.ok v w) :
  (results D tmps).run P w=.ok v w:=by
 have J:tmps[k]?.getD undef=.pointer (some A):=by rw[<-G,nK]
 simp[results,h,J,asAddr,I]
theorem yN:rA.all (·.oneCell')=true:=aj
theorem xD:(prog.info? 200).map (·.size)=some rA.size:=aj
theorem zt(w:World) :
  Calls prog 102 #[] w fun e w'=>e=.returned (.agg rA)/\Below w.heap.size w w':=by
 go_enter func102,ntmps102;go_wp2_with (refine nM rfl 200 (.tmp 0) (.tmp 18) rfl w.heap.size rA rfl rfl 200 _ (mr w _) xD rfl yN ?_;rw[nN]);refine kf (v:=.agg rA) ?_ rfl ⟨rfl,jV.alloc jU _⟩;have A:=run_loadVar_new (P:=prog) w 200 rA 17 199 underlying200 xD;exact Z66 results102 rfl A
def qi(r:ByteArray)(A:Bool):Int×ByteArray×Bool:=if h:0<r.size then ((r[0].toNat:Int),r.extract 1 r.size,A) else (0,r,true)
def wW(r:ByteArray)(A:Bool):Int×ByteArray×Bool:=(bits BinOp.or IntKind.u16 ((qi r A).1*256) (qi (qi r A).2.1 (qi r A).2.2).1,(qi (qi r A).2.1 (qi r A).2.2).2)
def tt(k:Nat)(r:ByteArray)(A:Bool):Int×ByteArray×Bool:=if k<=8 then (0,r,A) else if k=10\/k=14 then wW r A else qi r A
def xP(k:Nat):Nat:=if k<=8 then 139 else if k=10\/k=14 then 147 else 144
structure Reads(w:World)(b:Nat)(r:ByteArray)(sh:Bool):Prop where
 c0:w.cell? ⟨b,0,none⟩=some (.string r)
 c1:w.cell? ⟨b,1,none⟩=some (.bool sh)
 f0:w.frozen? ⟨b,0,none⟩=false
 f1:w.frozen? ⟨b,1,none⟩=false
theorem Z70(v:Value)(w:World) :
  Calls prog 139 #[v] w fun e w'=>e=.returned (.int .u16 0)/\w'=w:=by
 go_enter func139,ntmps139;go_wp2;go_ret;exact⟨rfl,rfl⟩
theorem Z7G(x:UInt8):IntKind.u16.wrap (x.toNat:Int)=x.toNat:=by
 have:=x.toNat_lt;unfold IntKind.wrap;simp[IntKind.bits];omega
theorem Bs(w:World)(b o:Nat)(u:Value):w.grownBy (w.setCell ⟨b,o,none⟩ u) (some b):=
 ⟨rfl,rfl,rfl,az,fun k _ hk=>ly (fun e=>hk (by rw[e]))⟩
theorem qw(r:ByteArray):r.toList.isEmpty=decide (r.size=0):=by
 rw[lB];have h:r.size=r.data.toList.length:=(kE (xs:=r.data)).symm;rw[h];cases r.data.toList with
 |nil=>rfl
 |cons x l=>rfl
theorem Reads.set0{w:World}{b:Nat}{r:ByteArray}{A:Bool}(h:Reads w b r A)(D:ByteArray):Reads (w.setCell ⟨b,0,none⟩ (.string D)) b D A:=
 ⟨kP _ h.c0,by rw[j3 af];exact h.c1,by simp[h.f0],by simp[h.f1]⟩
theorem Reads.set1{w:World}{b:Nat}{r:ByteArray}{D:Bool}(h:Reads w b r D)(A:Bool):Reads (w.setCell ⟨b,1,none⟩ (.bool A)) b r A:=
 ⟨by rw[j3 af];exact h.c0,kP _ h.c1,by simp[h.f0],by simp[h.f1]⟩
theorem BV(b:Nat)(r:ByteArray)(A:Bool)(w:World)(h:Reads w b r A) :
  Calls prog 144 #[.pointer (some ⟨b,0,none⟩)] w fun e w'=>e=.returned (.int .u16 (qi r A).1)/\Reads w' b (qi r A).2.1 (qi r A).2.2/\w.grownBy w' (some b):=by
 have D:Hid (Reads w b r A):=h;obtain⟨c0,c1,f0,f1⟩:=h;by_cases G:0<r.size
 ·have e:qi r A=((r[0].toNat:Int),r.extract 1 r.size,A):=by unfold qi;rw[mR G]
  have hs:r.toList.isEmpty=false:=aI;rw[e];have I:Hid (IntKind.u16.wrap (r[0].toNat:Int)=r[0].toNat):=Z7G _;clear e;go_enter func144,ntmps144;go_wp2;go_ret;refine⟨?_,D.o.set0 _,Bs _ _ _ _⟩;show Ending.returned (.int .u16 (IntKind.u16.wrap (r[0].toNat:Int)))=_;rw[I.o]
 have e:qi r A=(0,r,true):=by unfold qi;rw[nh G]
 have hs:r.toList.isEmpty=true:=et;rw[e];clear e;go_enter func144,ntmps144;go_wp2;go_ret;exact⟨rfl,D.o.set1 _,Bs _ _ _ _⟩
theorem zO{w A D:World}{b:Nat}(h:w.grownBy A (some b))(k:A.grownBy D (some b)):w.grownBy D (some b):=
 ⟨k.os.trans h.os,k.tape.trans h.tape,k.output.trans h.output,j8 h.size k.size,fun i hi G=>(k.block i (ke hi h.size) G).trans (h.block i hi G)⟩
theorem Z8n(r:ByteArray)(A:Bool):0<=(qi r A).1/\(qi r A).1<=255:=by
 unfold qi;split
 ·have:=(r[0]).toNat_lt;simp only;omega
 simp
theorem Z3e(b:Nat)(r:ByteArray)(A:Bool)(w:World)(h:Reads w b r A) :
  Calls prog 147 #[.pointer (some ⟨b,0,none⟩)] w fun e w'=>e=.returned (.int .u16 (wW r A).1)/\Reads w' b (wW r A).2.1 (wW r A).2.2/\w.grownBy w' (some b):=by
 have J:Hid (Reads w b r A):=h;unfold wW;have HB:=Z8n r A;obtain⟨p,D⟩:=Zg0 (qi r A);obtain⟨q,hq⟩:=Zg0 (qi p.2.1 p.2.2);rw[D]at HB;rw[D,hq];have M:Hid (qi r A=p):=D;have O:Hid (qi p.2.1 p.2.2=q):=hq;have Z:=HB.1;have b1:=HB.2;clear D hq h HB;go_enter func147,ntmps147;go_wp2_with fail;refine(BV b r A _ J.o).mono ?_;rintro e G ⟨rfl,h1,g1⟩;rw[M.o]at h1⊢;have R:Hid (Reads G b p.2.1 p.2.2):=h1;have S:Hid (w.grownBy G (some b)):=g1;clear h1 g1;go_wp2_with fail;refine(BV b p.2.1 p.2.2 _ R.o).mono ?_;rintro e I ⟨rfl,h2,g2⟩;rw[O.o]at h2⊢;have U:Hid (Reads I b q.2.1 q.2.2):=h2;have V:Hid (G.grownBy I (some b)):=g2;clear h2 g2;go_wp2;go_ret;exact⟨rfl,U.o,zO S.o V.o⟩
theorem Z87(k:Nat)(b:Nat)(r:ByteArray)(A:Bool)(w:World)(h:Reads w b r A) :
  Calls prog (xP k) #[.pointer (some ⟨b,0,none⟩)] w fun e w'=>e=.returned (.int .u16 (tt k r A).1)/\Reads w' b (tt k r A).2.1 (tt k r A).2.2/\w.grownBy w' (some b):=by
 unfold xP tt;split
 ·refine(Z70 _ _).mono ?_;rintro e w' ⟨rfl,rfl⟩;exact⟨rfl,h,⟨rfl,rfl,rfl,jU,fun _ _ _=>rfl⟩⟩
 split
 ·exact Z3e b r A w h
 exact BV b r A w h
theorem Z1J(k:Nat)(args:Array Value)(w:World):(callFunc (xP k) args).run prog w=.ok (.enter (xP k) args) w:=by
 unfold xP;split
 ·exact enters_of func139 aj rfl args w
 split
 ·exact enters_of func147 aj rfl args w
 exact enters_of func144 aj rfl args w
theorem Z59(k:Nat)(h:k<17):rA[3*k+1]?=some (fv (xP k)):=MaM
structure Opn where
 kind:Nat
 name:ByteArray
 own:Int
 added:Int
 behind:Int
def Opn.cells(o:Opn):List Value:=[.int .i64 o.kind,.string o.name,.int .u8 o.own,.int .u16 o.added,.int .u16 o.behind]
def Opn.put(o:Opn)(a:Int):Opn:={o with added:=a}
def opn0:Opn:=⟨0,⟨#[]⟩,0,0,0⟩
def pP(l:List Opn):List Value:=l.flatMap Opn.cells
theorem xX(l:List Opn):∀(k:Nat),k<l.length->(pP l)[k*5]?=some (.int .i64 (l.getD k opn0).kind)/\(pP l)[k*5+1]?=some (.string (l.getD k opn0).name) /\
  (pP l)[k*5+2]?=some (.int .u8 (l.getD k opn0).own)/\(pP l)[k*5+3]?=some (.int .u16 (l.getD k opn0).added)/\(pP l)[k*5+4]?=some (.int .u16 (l.getD k opn0).behind):=by
 induction l with
 |nil=>intro k h;simp at h
 |cons o l ih=>
  intro k h;cases k with
  |zero=>simp[pP,Opn.cells]
  |succ k=>
   have:=ih k av;simp only[List.getD_cons_succ]
   have e:∀i,(pP (o::l))[(k+1)*5+i]?=(pP l)[k*5+i]?:=by
    intro i;rw[show (k+1)*5+i=k*5+i+1+1+1+1+1 by omega];simp[pP,Opn.cells]
   have A:=e 0;simp only[kK]at A;rw[A,e 1,e 2,e 3,e 4];exact this
theorem Z2o(l:List Opn):∀(k:Nat) (a:Int),k<l.length->(pP l).set (k*5+3) (.int .u16 a)=pP (l.set k ((l.getD k opn0).put a)):=by
 induction l with
 |nil=>intro k a h;simp at h
 |cons o l ih=>
  intro k a h;cases k with
  |zero=>simp[pP,Opn.cells,Opn.put]
  |succ k=>
   have:=ih k a av;simp only[List.getD_cons_succ,List.set_cons_succ];rw[show (k+1)*5+3=k*5+3+1+1+1+1+1 by omega];simp only[pP,mT,Opn.cells,mU,mu,List.set_cons_succ]at this⊢;rw[this]
def pR(l:List Opn)(r:ByteArray)(A:Bool):Nat->List Opn×ByteArray×Bool
 |0=>(l,r,A)
 |k+1=>
  let p:=pR l r A k
  let q:=tt (p.1.getD k opn0).kind p.2.1 p.2.2
  (p.1.set k ((p.1.getD k opn0).put q.1),q.2.1,q.2.2)
theorem DG(l:List Opn)(r:ByteArray)(A:Bool)(k:Nat):(pR l r A k).1.length=l.length:=by
 induction k with
 |zero=>rfl
 |succ k ih=>simp only[pR,mJ];exact ih
theorem Z4z(l:List Opn)(i k:Nat)(x:Opn):(l.set i x).getD k opn0=if i=k/\k<l.length then x else l.getD k opn0:=by
 rw[jZ,mz,jZ];by_cases h:i=k
 ·subst h;by_cases h2:i<l.length
  ·simp[h2]
  simp[h2]
 simp[h]
theorem Z7X(l:List Opn)(r:ByteArray)(A:Bool)(k j:Nat):((pR l r A k).1.getD j opn0).kind=(l.getD j opn0).kind:=by
 induction k with
 |zero=>rfl
 |succ k ih=>
  simp only[pR,Z4z];split
  ·rename_i h;obtain⟨rfl,_⟩:=h;exact ih
  exact ih
theorem B6(r:ByteArray)(A:Bool):(qi r A).2.1.size<=r.size:=by
 unfold qi;split
 ·simp only[kU];omega
 exact jU
theorem Z1j(k:Nat)(r:ByteArray)(A:Bool):(tt k r A).2.1.size<=r.size:=by
 unfold tt;split
 ·exact jU
 split
 ·exact j8 (B6 _ _) (B6 _ _)
 exact B6 _ _
theorem Z4b(l:List Opn)(r:ByteArray)(A:Bool)(k:Nat):(pR l r A k).2.1.size<=r.size:=by
 induction k with
 |zero=>exact jU
 |succ k ih=>exact j8 (Z1j _ _ _) ih
theorem cell_of_block{w:World}{b o:Nat}{c:Array Value}{t:TypeId}{v:Value}(h:w.heap[b]?=some (.cells c t (0,0)))(A:c[o]?=some v):w.cell? ⟨b,o,none⟩=some v:=by
 rw[kM w b o c t (0,0) h];exact A
theorem Reads.kept{w w':World}{b g:Nat}{r:ByteArray}{A:Bool}(h:Reads w b r A)(D:w.grownBy w' (some g))(G:b≠g)(I:b<w.heap.size):Reads w' b r A:=by
 have e:=D.block b I (fun e=>G (kp e));exact⟨(jW (a:=⟨b,0,none⟩) e).trans h.c0,(jW (a:=⟨b,1,none⟩) e).trans h.c1,(ku (a:=⟨b,0,none⟩) e).trans h.f0,(ku (a:=⟨b,1,none⟩) e).trans h.f1⟩
theorem DU(base g M n:Nat)(l:List Opn)(code:ByteArray)(w:World)(hl:l.length=n)(hn:n<=1000)(Kc:w.ownsRow base 114 5 (.slice (some ⟨g,0,none⟩) n M) n (pP l))
  (hk:∀k,k<n->(l.getD k opn0).kind<17) (hc:0<code.size) (Ll:code.size<=maxLen) :
  Calls prog 60 #[.slice (some ⟨g,0,none⟩) n M,.string code] w fun e w'=>
   e=.returned (.tuple #[.int .i64 ((code.size:Int)-((pR l (code.extract 1 code.size) false n).2.1.size:Int)),.bool (!(pR l (code.extract 1 code.size) false n).2.2)]) /\
   w'.ownsRow base 114 5 (.slice (some ⟨g,0,none⟩) n M) n (pP (pR l (code.extract 1 code.size) false n).1)/\w.grownBy w' (some g):=by
 have Ru:g<w.heap.size:=(Kc.lt g rfl).2;go_enter func60,ntmps60;go_wp2_with fail;refine(zt _).mono ?_;rintro e A ⟨rfl,O⟩;have MK:w.heap.size<=A.heap.size:=O.size;go_wp2_with (refine nM rfl 200 (.tmp 6) (.tmp 9) rfl A.heap.size rA rfl rfl 200 _ (mr A _) xD rfl yN ?_;rw[nN]);go_loopw [15] (fun i wr=>∃k:Nat,k<=n/\i=.int .i64 k/\wr.ownsRow base 114 5 (.slice (some ⟨g,0,none⟩) n M) n (pP (pR l (code.extract 1 code.size) false k).1)/\Reads wr (A.heap.size+1) (pR l (code.extract 1 code.size) false k).2.1 (pR l (code.extract 1 code.size) false k).2.2/\wr.heap[A.heap.size]?=some (.cells rA 200 (0,0))/\w.grownBy wr (some g)/\A.heap.size+2<=wr.heap.size) (fun i _=>n-(intOf i).toNat)
 case atStart=>
  refine⟨0,j4,rfl,?_,⟨by simp[pR],by simp[pR],af,af⟩,?_,?_,af⟩
  ·have:A.ownsRow base 114 5 (.slice (some ⟨g,0,none⟩) n M) n (pP l):=Kc.kept (row:=none) ⟨O.os,O.tape,O.output,O.size,fun k hk _=>O.block k hk⟩ (.inr bd);exact(this.alloc _).alloc _
  ·rw[kt af];exact mr A _
  have Z:Below w.heap.size w ((A.alloc (.cells rA 200)).alloc (.cells #[.string (code.extract 1 code.size),.bool false] 203)):=(O.alloc MK _).alloc ai _;exact⟨Z.os,Z.tape,Z.output,Z.size,fun k hk _=>Z.block k hk⟩
 case round=>
  obtain⟨k,LD,rfl,S,Nq,ME,D,KB⟩:=hrel;obtain⟨p,U⟩:=Zg0 (pR l (code.extract 1 code.size) false k);rw[U]at S Nq;have HP:Hid (pR l (code.extract 1 code.size) false k=p):=U;have hpl:p.1.length=n:=by rw[<-U,DG];exact hl
  have ZH:Hid (p.1.length=n):=hpl;by_cases Kf:k<n
  ·have hkd:(p.1.getD k opn0).kind<17:=by rw[<-U,Z7X];exact hk k Kf
   obtain⟨q,hq⟩:=Zg0 ((p.1.getD k opn0).kind);have HQ:Hid ((p.1.getD k opn0).kind=q):=hq;rw[hq]at hkd;have ck:wr.cell? ⟨g,k*5,none⟩=some (.int .i64 q):=by rw[S.cellAt (k*5) ae,(xX p.1 k ae).1,hq]
   have ca:wr.cell? ⟨g,k*5+3,none⟩=some (.int .u16 (p.1.getD k opn0).added):=by rw[S.cellAt (k*5+3) ae,(xX p.1 k ae).2.2.2.1]
   have cw:wr.cell? ⟨A.heap.size,q*3+1,none⟩=some (fv (xP q)):=cell_of_block ME (by rw[nj q 3];exact Z59 q hkd);have Lm:=Z1J q;clear U hq hpl;go_wp2_with fail;refine(Z87 q (A.heap.size+1) p.2.1 p.2.2 _ Nq).mono ?_;rintro e I ⟨rfl,XU,G⟩;obtain⟨t,ht⟩:=Zg0 (tt q p.2.1 p.2.2);rw[ht]at XU⊢;have HT:Hid (tt q p.2.1 p.2.2=t):=ht;have LC:I.ownsRow base 114 5 (.slice (some ⟨g,0,none⟩) n M) n (pP p.1):=S.kept G (.inr (by simp[Value.ownBlock];omega));have VI6:I.cell? ⟨g,k*5+3,none⟩=some (.int .u16 (p.1.getD k opn0).added):=by rw[LC.cellAt (k*5+3) ae,(xX p.1 k (by rw[ZH.o];exact Kf)).2.2.2.1]
   have VI7:I.frozen? ⟨g,k*5+3,none⟩=false:=LC.frozenAt _;have V:=LC.stored (k*5+3) (.int .u16 t.1)
   have eN:pR l (code.extract 1 code.size) false (k+1)=(p.1.set k ((p.1.getD k opn0).put t.1),t.2.1,t.2.2):=by
    simp only[pR,HP.o,HQ.o,HT.o]
   have HE:Hid (pR l (code.extract 1 code.size) false (k+1)=(p.1.set k ((p.1.getD k opn0).put t.1),t.2.1,t.2.2)):=eN;have Ky:=G.size
   have WB:(I.setCell ⟨g,k*5+3,none⟩ (.int .u16 t.1)).ownsRow base 114 5 (.slice (some ⟨g,0,none⟩) n M) n (pP (p.1.set k ((p.1.getD k opn0).put t.1))):=by
    rw[<-Z2o p.1 k t.1 (by rw[ZH.o];exact Kf)];exact V.1
   have WC:Reads (I.setCell ⟨g,k*5+3,none⟩ (.int .u16 t.1)) (A.heap.size+1) t.2.1 t.2.2:=XU.kept V.2 ae ae
   have WD:(I.setCell ⟨g,k*5+3,none⟩ (.int .u16 t.1)).heap[A.heap.size]?=some (.cells rA 200 (0,0)):=by
    rw[V.2.block A.heap.size ae ai,G.block A.heap.size ae af];exact ME
   have WE:w.grownBy (I.setCell ⟨g,k*5+3,none⟩ (.int .u16 t.1)) (some g):=by
    refine zO ⟨G.os.trans D.os,G.tape.trans D.tape,G.output.trans D.output,j8 D.size G.size,fun j hj Kk=>?_⟩ V.2;rw[G.block j (ke hj D.size) ai];exact D.block j hj Kk
   have WG:A.heap.size+2<=(I.setCell ⟨g,k*5+3,none⟩ (.int .u16 t.1)).heap.size:=by have:=V.2.size;omega
   have R:=And.intro WB (And.intro WC (And.intro WD (And.intro WE WG)));have J:=oP R;clear WB WC WD WE WG R V S LC Nq XU ME D G ck ca cw Lm eN ht;go_wp2;go_roundw
   case rel=>
    have R:=J.o;refine⟨k+1,ae,ao,?_,?_,R.2.2.1,R.2.2.2.1,R.2.2.2.2⟩
    ·rw[HE.o];exact R.1
    rw[HE.o];exact R.2.1
   case measure=>simp[intOf];omega
  have TI:k=n:=ae;have HK:Hid (k=n):=TI;have J:=oP (And.intro S D);obtain⟨c0,c1,_,_⟩:=Nq
  have KR:p.2.1.size<=maxLen:=by
   have:=Z4b l (code.extract 1 code.size) false k;rw[U]at this;simp only[kU]at this;omega
  clear U hpl TI S D;unfold maxLen at Ll KR;go_wp2;go_quiet (fail);go_wp2;go_ret2;rw[<-HK.o,HP.o];exact⟨rfl,by rw[HK.o];exact J.o.1,⟨J.o.2.os,J.o.2.tape,J.o.2.output,J.o.2.size,J.o.2.block⟩⟩
