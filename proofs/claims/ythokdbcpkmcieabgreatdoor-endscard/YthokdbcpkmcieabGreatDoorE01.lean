/- Run Step -/
import Derived.WalkKit
import Derived.KernelRfl
import Derived.Deep.RegionLaw
import Derived.OwnWalk
import Derived.Maps.AppendAt
import Derived.WalkSpells
set_option maxRecDepth 200000
set_option maxHeartbeats 8000000
namespace Go.Proofs.YthokdbcpkmcieabGreatDoor
open Go Go.RowKit
theorem Z0a {p:Prop}(h:p):Hid p:=h
def Z5u (P:Program) (ops:Array Oper):List Oper→Act→World→Option (Act × World)
 | [],a,w=>some (a,w)
 | o :: rest,a,w =>
  match Region.wanted o (yielded ops a.tmps) with
  | true=>match (execOp a.eval o).run P w with
   | .ok (.value v) w'=>Z5u P ops rest (a.put o.dst v) w'
   | .ok .skip w'=>Z5u P ops rest (a.put o.dst undef) w'
   | _=>none
  | false=>Z5u P ops rest (a.put o.dst undef) w
theorem Z3U {P:Program}{ops:Array Oper}{Q:Exit→Act→World→Prop}:∀ (l:List Oper) (a:Act) (w:World) (a':Act) (w':World),Z5u P ops l a w=some (a',w')→Q .normal a' w'→wpList P ops Q l a w
 | [],a,w,a',w',h,hq=>by
  simp only [Z5u,Option.some.injEq,Prod.mk.injEq] at h
  obtain ⟨rfl,rfl⟩:=h
  exact hq
 | o :: rest,a,w,a',w',h,hq=>by
  unfold wpList
  unfold Z5u at h
  cases hw:Region.wanted o (yielded ops a.tmps) with
  | true =>
   rw [hw] at h
   simp only at h
   rw [if_pos rfl]
   refine .inl ?_
   unfold Oper.wp
   cases hr:(execOp a.eval o).run P w with
   | ok n w1 =>
    rw [hr] at h
    cases n with
    | value v=>exact Z3U rest _ _ a' w' h hq
    | skip=>exact Z3U rest _ _ a' w' h hq
    | _=>simp at h
   | halt x w1=>rw [hr] at h;simp at h
  | false =>
   rw [hw] at h
   simp only at h
   rw [if_neg (by simp)]
   exact Z3U rest _ _ a' w' h hq
def Z01 (P:Program):Code→Act→World→Option (Bool × Act × World)
 | .seq x y,a,w=>match Z01 P x a w with
  | some (false,a',w')=>Z01 P y a' w'
  | r=>r
 | .region _ ops false,a,w=>match Z5u P ops ops.toList a w with
  | some (a',w')=>some (false,a',w')
  | none=>none
 | .skip,a,w=>some (false,a,w)
 | .ret,a,w=>some (true,a,w)
 | _,_,_=>none
theorem wp_run {P:Program}{Q:Exit→Act→World→Prop}:∀ (c:Code) (a:Act) (w:World) (b:Bool) (a':Act) (w':World),Z01 P c a w=some (b,a',w')→Q (match b with | true=>.ret | false=>.normal) a' w'→c.wp P Q a w
 | .seq x y,a,w,b,a',w',h,hq=>by
  unfold Z01 at h
  refine wp_seq ?_
  cases hx:Z01 P x a w with
  | none=>rw [hx] at h;simp at h
  | some r =>
   obtain ⟨b1,a1,w1⟩:=r
   rw [hx] at h
   cases b1 with
   | false=>exact wp_run x a w false a1 w1 hx (wp_run y a1 w1 b a' w' h hq)
   | true =>
    simp only [Option.some.injEq,Prod.mk.injEq] at h
    obtain ⟨rfl,rfl,rfl⟩:=h
    exact wp_run x a w true _ _ hx hq
 | .region i ops false,a,w,b,a',w',h,hq=>by
  unfold Z01 at h
  refine wp_region_list ?_
  cases hx:Z5u P ops ops.toList a w with
  | none=>rw [hx] at h;simp at h
  | some r =>
   rw [hx] at h
   simp only [Option.some.injEq,Prod.mk.injEq] at h
   obtain ⟨rfl,rfl,rfl⟩:=h
   exact Z3U _ a w r.1 r.2 hx hq
 | .skip,a,w,b,a',w',h,hq=>by
  simp only [Z01,Option.some.injEq,Prod.mk.injEq] at h
  obtain ⟨rfl,rfl,rfl⟩:=h
  exact wp_skip hq
 | .ret,a,w,b,a',w',h,hq=>by
  simp only [Z01,Option.some.injEq,Prod.mk.injEq] at h
  obtain ⟨rfl,rfl,rfl⟩:=h
  exact wp_ret hq
 | .region _ _ true,_,_,_,_,_,h,_=>by simp [Z01] at h
 | .cond ..,_,_,_,_,_,h,_=>by simp [Z01] at h
 | .block ..,_,_,_,_,_,h,_=>by simp [Z01] at h
 | .loop ..,_,_,_,_,_,h,_=>by simp [Z01] at h
 | .rangeFunc ..,_,_,_,_,_,h,_=>by simp [Z01] at h
 | .exit ..,_,_,_,_,_,h,_=>by simp [Z01] at h
 | .scope ..,_,_,_,_,_,h,_=>by simp [Z01] at h
 | .label ..,_,_,_,_,_,h,_=>by simp [Z01] at h
 | .goto ..,_,_,_,_,_,h,_=>by simp [Z01] at h
 | .refuse ..,_,_,_,_,_,h,_=>by simp [Z01] at h
theorem calls_run {P:Program}{f:FuncId}{fn:Func}{c:Code}{args:Array Value}{w:World}{R:Ending→World→Prop}(v:Value)(w':World)
  (hf:P.funcs[f]?=some fn) (hb:fn.body=some c)
  (h:((Z01 P c { tmps:=args++Array.replicate (fn.ntmps-args.size) undef,defers:=[] } w).bind fun p=>match p.2.1.defers,(results fn p.2.1.tmps).run P p.2.2 with
   | [],.ok v w2=>some (v,w2,p.2.2)
   | _,_=>none)=some (v,w',w'))
  (hR:R (.returned v) w'):Calls P f args w R:=by
 refine calls_of_wp hf hb ?_
 cases hr:Z01 P c { tmps:=args++Array.replicate (fn.ntmps-args.size) undef,defers:=[] } w with
 | none=>rw [hr] at h;simp at h
 | some p =>
  obtain ⟨b,a1,w1⟩:=p
  rw [hr] at h
  simp only [Option.bind_some] at h
  cases hd:a1.defers with
  | cons d ds=>rw [hd] at h;simp at h
  | nil =>
   rw [hd] at h
   cases hs:(results fn a1.tmps).run P w1 with
   | halt x w2=>rw [hs] at h;simp at h
   | ok v2 w2 =>
    rw [hs] at h
    simp only [Option.some.injEq,Prod.mk.injEq] at h
    obtain ⟨rfl,rfl,rfl⟩:=h
    refine wp_run c _ _ b a1 _ hr ?_
    cases b with
    | true=>exact ⟨hd,_,hs,hR⟩
    | false=>exact ⟨hd,_,hs,hR⟩
theorem Z4T {P:Program}{ops:Array Oper}{o:Oper}{a:Act}{w:World}{K:Act→World→Prop}{Q:Exit→Act→World→Prop}{E:Prop}(f:FuncId)(args:Array Value)
  (hg:o.guard=none) (hrun:(execOp a.eval o).run P w=.ok (.enter f args) w) (R:Ending→World→Prop) (hc:Calls P f args w R) (hR:∀ e w',R e w'→∃ ch,e=.panicked ch∧Q (.panic ch) a w')
  (_:Hid False→K (a.put o.dst (.slice none 0 0)) w):if Region.wanted o (yielded ops a.tmps)=true then Oper.wp P o a w K Q else E:=by
 have hw:Region.wanted o (yielded ops a.tmps)=true:=by simp [Region.wanted,hg]
 rw [if_pos hw]
 unfold Oper.wp
 rw [hrun,Oper.upon_enter]
 refine hc.mono ?_
 intro e w' h
 obtain ⟨ch,rfl,hq⟩:=hR e w' h
 exact hq
theorem Z1r {P:Program}{ops:Array Oper}{o:Oper}{a:Act}{w:World}{K:Act→World→Prop}{Q:Exit→Act→World→Prop}{E:Prop}(bv:Value)(f:FuncId)(args:Array Value)
  (hg:o.guard=none) (hrun:(execOp a.eval o).run P w=.ok (.enter f args) w) (R:Ending→World→Prop) (hc:Calls P f args w R) (hR:∀ e w',R e w'→∃ ch,e=.panicked ch∧Q (.panic ch) a w')
  (_:Hid False→K (a.put o.dst bv) w):if Region.wanted o (yielded ops a.tmps)=true then Oper.wp P o a w K Q else E:=by
 have hw:Region.wanted o (yielded ops a.tmps)=true:=by simp [Region.wanted,hg]
 rw [if_pos hw]
 unfold Oper.wp
 rw [hrun,Oper.upon_enter]
 refine hc.mono ?_
 intro e w' h
 obtain ⟨ch,rfl,hq⟩:=hR e w' h
 exact hq
theorem Z2X {P:Program}{ops:Array Oper}{o:Oper}{a:Act}{w:World}{K:Act→World→Prop}{Q:Exit→Act→World→Prop}{E:Prop}(hF:Hid False)(_:K (a.put o.dst (.slice none 0 0)) w):if Region.wanted o (yielded ops a.tmps)=true then Oper.wp P o a w K Q else E:=hF.out.elim
theorem Z2L {P:Program}{ops:Array Oper}{o:Oper}{a:Act}{w:World}{K:Act→World→Prop}{Q:Exit→Act→World→Prop}{E:Prop}(f:FuncId)(args:Array Value)
  (hg:o.guard=none) (hrun:(execOp a.eval o).run P w=.ok (.enter f args) w) (R:Ending→World→Prop) (S:Value→World→Prop) (hc:Calls P f args w R) (hR:∀ e w',R e w'→∃ v,e=.returned v∧S v w')
  (hK:∀ v w',S v w'→K (a.put o.dst v) w'):if Region.wanted o (yielded ops a.tmps)=true then Oper.wp P o a w K Q else E:=by
 have hw:Region.wanted o (yielded ops a.tmps)=true:=by simp [Region.wanted,hg]
 rw [if_pos hw]
 unfold Oper.wp
 rw [hrun,Oper.upon_enter]
 refine hc.mono ?_
 intro e w' h
 obtain ⟨v,rfl,hs⟩:=hR e w' h
 exact hK v w' hs
theorem Z1C {P:Program}{ops:Array Oper}{o:Oper}{a:Act}{w:World}{K:Act→World→Prop}{Q:Exit→Act→World→Prop}{E:Prop}
  (hg:o.guard=none) (s x:Operand) (t:TypeId) (hop:o.op=Op.call { callee:=Callee.builtin Builtin.append,args:=#[s,x],argTypes:=#[t,t] })
  (base:Nat) (e:TypeId) (i:TypeInfo) (z:Value) (size bytes:Nat) (ht:P.underlying t=some (.slice e)) (hi:P.info? e=some i) (hz:i.zero=some z)
  (hsize:i.size=size) (hby:i.bytes=bytes) (hzs:z.cells.size=size) (hsz:0<size)
  (v:Value) (n:Nat) (xs:List Value) (hs:a.eval s=v) (hown:w.ownsRow base e size v n xs)
  (ad:Addr) (m c:Nat) (news:List Value) (hx:a.eval x=.slice (some ad) m c) (hl:news.length=m*size) (hnews:∀ j u,news[j]?=some u→w.cell? (ad.add j)=some u) (h1:∀ u∈news,u.oneCell'=true)
  (h63:n+m≤maxLen) (hbytes:(n+m)*bytes≤140737488355328) (hbase:base≤w.heap.size)
  (hK:∀ v' w',w'.ownsRow base e size v' (n+m) (xs++news)→w.grownBy w' v.ownBlock→(v'.ownBlock=v.ownBlock∨v'.ownBlock=some w.heap.size)→K (a.put o.dst v') w') :
  if Region.wanted o (yielded ops a.tmps)=true then Oper.wp P o a w K Q else E:=by
 have hw:Region.wanted o (yielded ops a.tmps)=true:=by simp [Region.wanted,hg]
 rw [if_pos hw]
 obtain ⟨v',w',hrun,r1,r2,_,r3⟩:=run_append_own_at (P:=P) w base t o.type e i z size bytes ht hi hz hsize hby hzs hsz v n xs hown ad m c news hl hnews h1 h63 hbytes hbase
 unfold Oper.wp
 simp [execOp,hop,resolve,invoke,builtin,hs,hx,hrun,Result.andThen]
 exact hK v' w' r1 r2 r3
end Go.Proofs.YthokdbcpkmcieabGreatDoor
