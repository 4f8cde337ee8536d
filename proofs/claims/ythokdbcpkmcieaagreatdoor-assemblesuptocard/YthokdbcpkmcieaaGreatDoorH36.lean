import Derived.Test.YthokdbcpkmcieaaGreatDoorH35
set_option maxRecDepth 200000
set_option maxHeartbeats 16000000
namespace Go.Proofs.YthokdbcpkmcieaaGreatDoor
open RowKit
structure RAsm where
 L:List (ByteArray×Int)
 pl:Nat
 bytes:List UInt8
 laid:List Bool
 starts:List Bool
def rasm0:RAsm:=⟨[],0,List.replicate 1024 0,bF,bF⟩
def tO(e:Nat)(x:RTerm):Nat:=
 if x.t.great=true then oU (if x.t.kind=119/\8<x.t.s.size then oU e 3 else e) 6 else if x.t.kind=119/\8<x.t.s.size then oU e 3 else e
def xz(e:Nat)(o:ROp):Nat:=o.e.foldl tO e
def xS(os:List ROp):Nat:=os.foldl xz 0
def rD(L:List (ByteArray×Int))(s:ByteArray):Nat:=
 if L.length=40 then oU (if (qH L s).isSome=true then oU (if 8<s.size then 3 else 0) 4 else if 8<s.size then 3 else 0) 5
 else if (qH L s).isSome=true then oU (if 8<s.size then 3 else 0) 4 else if 8<s.size then 3 else 0
def wORG:ByteArray:=⟨#[111,114,103]⟩
def wDS:ByteArray:=⟨#[100,115]⟩
def wEQU:ByteArray:=⟨#[101,113,117]⟩
def wDB:ByteArray:=⟨#[100,98]⟩
def wDW:ByteArray:=⟨#[100,119]⟩
def wINS:ByteArray:=⟨#[105,110,115]⟩
def pg(x:RLine):Nat:=if x.what=wDB then x.ops.length else if x.what=wDW then 2*x.ops.length else if x.what=wINS then rk (x.ent.2.2.2.map kd) else 0
def oS(a:RAsm)(x:RLine):RAsm:=if x.label=⟨#[]⟩ then a else {a with L:=a.L++[(x.label,(a.pl:Int))]}
def pX(a:RAsm)(x:RLine):Nat:=if x.label=⟨#[]⟩ then xS x.ops else oU (xS x.ops) (rD a.L x.label)
def oT(a:RAsm)(x:RLine):Nat×RAsm:=
 if x.what=⟨#[]⟩ then (pX a x,oS a x)
 else if x.what=wORG\/x.what=wDS\/x.what=wEQU then
  (
   if x.what=wEQU then (oU (oU (pX a x) (rVF (oS a x).L (a.pl:Int) (x.ops.getD 0 op0).e 0 0).2) (rD (oS a x).L x.name),{oS a x with L:=(oS a x).L++[(x.name,(rVF (oS a x).L (a.pl:Int) (x.ops.getD 0 op0).e 0 0).1)]})
   else if ¬(rVF (oS a x).L (a.pl:Int) (x.ops.getD 0 op0).e 0 0).2=0 then (oU (pX a x) (rVF (oS a x).L (a.pl:Int) (x.ops.getD 0 op0).e 0 0).2,oS a x)
   else if x.what=wORG then
    (
     if (rVF (oS a x).L (a.pl:Int) (x.ops.getD 0 op0).e 0 0).1<0\/1023<(rVF (oS a x).L (a.pl:Int) (x.ops.getD 0 op0).e 0 0).1 then (oU (pX a x) 6,oS a x)
     else (pX a x,{oS a x with pl:=(rVF (oS a x).L (a.pl:Int) (x.ops.getD 0 op0).e 0 0).1.toNat}))
   else if (rVF (oS a x).L (a.pl:Int) (x.ops.getD 0 op0).e 0 0).1<0\/1024<(a.pl:Int)+(rVF (oS a x).L (a.pl:Int) (x.ops.getD 0 op0).e 0 0).1 then (oU (pX a x) 6,oS a x)
   else (pX a x,{oS a x with pl:=a.pl+(rVF (oS a x).L (a.pl:Int) (x.ops.getD 0 op0).e 0 0).1.toNat}))
 else if 1024<a.pl+pg x then (oU (pX a x) 6,oS a x)
 else (if true∈(a.laid.drop a.pl).take (pg x) then oU (pX a x) 7 else pX a x,{oS a x with pl:=a.pl+pg x,laid:=qm a.laid a.pl (pg x),starts:=if x.what=wINS then a.starts.set a.pl true else a.starts})
def pM(a:RAsm)(n:Int)(e:Nat)(lo hi:Int)(A:Bool):Nat×RAsm:=
 if e=3 then (3,a) else if e≠0\/n<lo\/hi<n then (6,a)
 else (0,{a with bytes:=if A=true then (a.bytes.set a.pl (toB (IntKind.u8.wrap (n/256)))).set (a.pl+1) (toB (IntKind.u8.wrap n)) else a.bytes.set a.pl (toB (IntKind.u8.wrap n)),pl:=a.pl+if A=true then 2 else 1})
def zJ(n behind:Int):Int:=if (n-behind+65536)%65536≥32768 then (n-behind+65536)%65536-65536 else (n-behind+65536)%65536
def r9(a:RAsm)(o:ROp)(start:Nat):Int×Nat:=if o.e=[] then (0,0) else rVF a.L (start:Int) o.e 0 0
def qK(a:RAsm)(k:Nat)(v:Int×Nat)(start behind:Nat):Nat×RAsm:=
 if k<=8 then (0,a)
 else if k=9 then pM a v.1 v.2 (-128) 255 false
 else if k=10 then pM a v.1 v.2 (-32768) 65535 true
 else if k<=13 then pM a v.1 v.2 0 255 false
 else if k=14 then pM a v.1 v.2 0 65535 true
 else if v.2≠0\/v.1<0\/65535<v.1 then (oU v.2 6,a)
 else if k=15 then pM a (zJ v.1 (behind:Int)) 0 (-128) 127 false
 else if ¬v.1/2048=(behind:Int)/2048 then (6,a)
 else pM {a with bytes:=a.bytes.set start (a.bytes.getD start 0+toB (IntKind.u8.wrap (v.1/256%8*32)))} (v.1%256) 0 0 255 false
def qN(start behind:Nat):List Nat->List ROp->Nat->RAsm->Nat×RAsm
 |k::ks,o::os,e,a=>
  let a1:RAsm:=if o.fixed=p9 8\/o.fixed=p9 7 then {a with bytes:=a.bytes.set start (a.bytes.getD start 0+UInt8.ofNat o.number)} else a
  let r:=qK a1 k (r9 a1 o start) start behind
  qN start behind ks os (oU e r.1) r.2
 |_,_,e,a=>(e,a)
def qS(A:Bool)(start:Nat):List ROp->Nat->RAsm->Nat×RAsm
 |[],e,a=>(e,a)
 |o::os,e,a=>
  let v:=rVF a.L (start:Int) o.e 0 0
  let r:=pM a v.1 v.2 (if A=true then -32768 else -128) (if A=true then 65535 else 255) A
  qS A start os (oU e r.1) r.2
def u9(l:List UInt8)(i:Nat):List UInt8:=(l.set i (l.getD (i+1) 0)).set (i+1) (l.getD i 0)
def pz(a:RAsm)(x:RLine):Nat×RAsm:=
 if x.what=wORG then (0,{a with pl:=(rVF a.L (a.pl:Int) (x.ops.getD 0 op0).e 0 0).1.toNat})
 else if x.what=wDS then (0,{a with pl:=a.pl+(rVF a.L (a.pl:Int) (x.ops.getD 0 op0).e 0 0).1.toNat})
 else if x.what=wDB\/x.what=wDW then
  ((qS (decide (x.what=wDW)) a.pl x.ops 0 a).1,{ (qS (decide (x.what=wDW)) a.pl x.ops 0 a).2 with pl:=a.pl+pg x})
 else if x.what=wINS then
  let r:=qN a.pl (a.pl+pg x) (x.ent.2.2.2.map kd) x.ops 0 {a with bytes:=a.bytes.set a.pl (UInt8.ofNat x.ent.1),pl:=a.pl+1}
  (r.1,{r.2 with bytes:=if x.ent.1=133/\r.1=0 then u9 r.2.bytes (a.pl+1) else r.2.bytes,pl:=a.pl+pg x})
 else (0,a)
