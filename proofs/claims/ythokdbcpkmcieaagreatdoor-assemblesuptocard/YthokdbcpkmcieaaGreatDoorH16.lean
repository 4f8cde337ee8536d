import Derived.Test.YthokdbcpkmcieaaGreatDoorH15
set_option maxRecDepth 200000
set_option maxHeartbeats 16000000
namespace Go.Proofs.YthokdbcpkmcieaaGreatDoor
open RowKit Shelf WideMaps Maps Proofs.Tryz
theorem ze{P:Program}(w:World){ops:Array Oper}{rest:List Oper}{o:Oper}{a:Act}{Q:Exit->Act->World->Prop}
  (hg:o.guard=none) (m x v:Operand) (t:TypeId) (NF:o.op=Op.insert t m x v)
  (k e:TypeId) (K:Keyed P k) (ht:P.underlying t=some (.map k e)) (b n:Nat) (f:List UInt8->Option Value)
  (hm:a.eval m=.map (some b)) (Kc:MapAt P k w b n f) (hn:n<maxLen) (A val:Value) (l:List UInt8) (hx:a.eval x=A) (hv:a.eval v=val) (KN:keyOf P k A=some (.string l))
  (hK:∀w',MapAt P k w' b (vq n (f l)) (rB f l val)->w.grownBy w' (some b)->wpList P ops Q rest (a.put o.dst undef) w'):wpList P ops Q (o::rest) a w:=by
 exact Ma6
theorem Z0u(l:List UInt8):rB (rB (rB (rB (rB (fun _=>none) [79,82,71] (.int .i64 1)) [68,66] (.int .i64 2)) [68,87] (.int .i64 3)) [68,83] (.int .i64 4)) [69,81,85] (.int .i64 5) l=((fun l=>(px l).map fun t=>.int .i64 t):List UInt8->Option Value) l:=by
 by_cases h1:l=[79,82,71]
 ·subst h1;rfl
 by_cases h2:l=[68,66]
 ·subst h2;rfl
 by_cases h3:l=[68,87]
 ·subst h3;rfl
 by_cases h4:l=[68,83]
 ·subst h4;rfl
 by_cases A:l=[69,81,85]
 ·subst A;rfl
 have e:px l=none:=by
  unfold px
  have:dirL.find? (fun x=>x.1==l)=none:=by
   rw[nU];intro x hx;simp only[dirL,kF,lE,lF]at hx;rcases hx with rfl|rfl|rfl|rfl|rfl
   all_goals
    simp only[mx];intro e;simp_all
  rw[this];rfl
 unfold rB;rw[jS A,jS h4,jS h3,jS h2,jS h1];simp[e]
theorem Z93(w:World) :
  Calls prog 162 #[] w fun e w'=>e=.returned (.map (some w.heap.size))/\MapAt prog 9 w' w.heap.size 5 (fun l=>(px l).map fun t=>.int .i64 t)/\Below w.heap.size w w':=by
 have O:=@n8 prog;go_enter func162,ntmps162
 go_wp2_with (
  refine ze _ rfl _ _ _ 248 rfl 9 124 rz underlying248 w.heap.size 0 _ rfl (MapAt.made _ _ _) ah (.string ⟨#[79,82,71]⟩) (.int .i64 1) [79,82,71] rfl rfl (kO underlying9 ah) ?_;intro R m1 g1;refine ze _ rfl _ _ _ 248 rfl 9 124 rz underlying248 w.heap.size 1 _ rfl m1 ah (.string ⟨#[68,66]⟩) (.int .i64 2) [68,66] rfl rfl (kO underlying9 ah) ?_;intro S D g2;refine ze _ rfl _ _ _ 248 rfl 9 124 rz underlying248 w.heap.size 2 _ rfl D ah (.string ⟨#[68,87]⟩) (.int .i64 3) [68,87] rfl rfl (kO underlying9 ah) ?_;intro U G g3;refine ze _ rfl _ _ _ 248 rfl 9 124 rz underlying248 w.heap.size 3 _ rfl G ah (.string ⟨#[68,83]⟩) (.int .i64 4) [68,83] rfl rfl (kO underlying9 ah) ?_;intro V I g4;refine ze _ rfl _ _ _ 248 rfl 9 124 rz underlying248 w.heap.size 4 _ rfl I ah (.string ⟨#[69,81,85]⟩) (.int .i64 5) [69,81,85] rfl rfl (kO underlying9 ah) ?_;intro Z J M)
 go_ret;have A:Below w.heap.size w (w.alloc (.map #[] 0)):=(jV).alloc jU _;have b1:=A.grown g1 (by have:=A.size;omega) (fun k hk=>by cases hk;exact jU);have b2:=b1.grown g2 (by have:=b1.size;omega) (fun k hk=>by cases hk;exact jU);have b3:=b2.grown g3 (by have:=b2.size;omega) (fun k hk=>by cases hk;exact jU);have b4:=b3.grown g4 (by have:=b3.size;omega) (fun k hk=>by cases hk;exact jU);have b5:=b4.grown M (by have:=b4.size;omega) (fun k hk=>by cases hk;exact jU);exact⟨rfl,J.ext Z0u,b5⟩
theorem Z42{w wr G w':World}{fb O R rb db:Nat}(h:NB w wr fb O R rb 111 111)(I:wr.grownBy G (some w.heap.size))(S:Below G.heap.size G w')(hd:MapAt prog 9 w' db 5 (fun l=>(px l).map fun t=>.int .i64 t)):BookAt w' ⟨w.heap.size+1,w.heap.size+2,fb,db⟩/\InsAt w' ⟨w.heap.size+1,w.heap.size+2,fb,db⟩ wr.heap.size:=by
 obtain⟨d1,d2,d3,d4,d5⟩:=h.d;have hz:=I.size;have D:∀j,j<wr.heap.size->j≠w.heap.size->w'.heap[j]?=wr.heap[j]?:=fun j A U=>(S.block j ae).trans (I.block j A (fun e=>U (kp e)))
 have J:rowsL.length=111:=aq;obtain⟨n,hn,hc⟩:=h.cn;obtain⟨V,f,Vg,hi,Z⟩:=h.ins;obtain⟨nf,hf⟩:=h.fx;refine⟨⟨⟨_,n,hc.at1B (D _ ae ae),fun l=>?_⟩,⟨nf,hf.at1B (D _ ae ae)⟩,hd⟩,f,V,hi.at1B (D _ ae ae),fun s ks h1 h2 h3=>?_⟩
 ·have:=Z9J l;rw[J]at this;exact this
 have:=Z s ks h1 h2 h3;rw[<-J,Z2u]at this;cases M:tU s.data.toList ks with
 |none=>
  rw[M]at this;exact this
 |some d=>
  rw[M]at this;obtain⟨v,q1,q2,q3⟩:=this;exact⟨v,q1,xA q2 (fun j A=>D j (q2.lt j A).2 (by have:=q3 j A;omega)),fun j A=>(q2.lt j A).2⟩
theorem Z3f(m:Int)(w:World)(S:w.cell? ⟨0,0,none⟩=some (.int .i64 m))(h0:0<w.heap.size) :
  Calls prog 104 #[] w fun e w'=>∃G,e=.returned (.pointer (some ⟨G,0,none⟩))/\∃b,(P0 w' G b/\BookAt w' b/\InsAt w' b G)/\(b.cb<G/\b.fb<G/\b.db<G/\b.ib<G)/\(w.heap.size<b.cb/\w.heap.size<b.fb/\w.heap.size<b.db/\w.heap.size<b.ib)/\Below w.heap.size w w':=by
 have HB:=oP (Z1Z m w S h0);clear S h0;go_enter func104,ntmps104;go_wp2_with fail;refine HB.o.mono ?_;rintro e I ⟨fb,rfl,bb,kb,rb,wr,A,D⟩;have Z:=oP (And.intro A D);have U:=oP (Z93 I);clear A D HB;go_wp2_with fail;refine U.o.mono ?_;rintro e R ⟨rfl,M,J⟩;have HM:=oP (And.intro M J);clear M J U;go_wp2;go_ret;obtain⟨A,D⟩:=Z.o;obtain⟨M,J⟩:=HM.o;obtain⟨d1,d2,d3,d4,d5⟩:=A.d;have hz:=D.size;have TX:=M.lt;have V:Below w.heap.size w I:=⟨D.os.trans A.below.os,D.tape.trans A.below.tape,D.output.trans A.below.output,j8 A.below.size hz,fun k hk=>(D.block k ae (fun e=>bN)).trans (A.below.block k hk)⟩;have O:=V.trans (J.mono V.size);obtain⟨b1,b2⟩:=Z42 A D (J.alloc J.size (.cells #[.map (some (w.heap.size+1)),.map (some (w.heap.size+2)),.map (some fb),.map (some I.heap.size),.int .i64 0,.slice none 0 0] 252)) (M.alloc _);have hh:=kg R (.cells #[.map (some (w.heap.size+1)),.map (some (w.heap.size+2)),.map (some fb),.map (some I.heap.size),.int .i64 0,.slice none 0 0] 252);have hc:∀j u,#[.map (some (w.heap.size+1)),.map (some (w.heap.size+2)),.map (some fb),.map (some I.heap.size),.int .i64 0,.slice none 0 0][j]?=some u->(R.alloc (.cells #[.map (some (w.heap.size+1)),.map (some (w.heap.size+2)),.map (some fb),.map (some I.heap.size),.int .i64 0,.slice none 0 0] 252)).cell? ⟨R.heap.size,j,none⟩=some u:=fun j u hu=>dG
 refine⟨R.heap.size,rfl,⟨w.heap.size+1,w.heap.size+2,fb,I.heap.size⟩,⟨⟨hc 0 _ rfl,hc 1 _ rfl,hc 2 _ rfl,hc 3 _ rfl,⟨0,hc 4 _ rfl⟩,⟨none,0,0,hc 5 _ rfl⟩,kT _ _ _ hh,kT _ _ _ hh,af⟩,b1,?_⟩,⟨aH,aH,TX,aH⟩,⟨aH,aH,aH,aH⟩,O.alloc O.size _⟩;obtain⟨f,n,q1,q2⟩:=b2;refine⟨f,n,q1,fun s ks h1 h2 h3=>?_⟩;have:=q2 s ks h1 h2 h3;split at this
 ·exact this
 obtain⟨v,p1,p2,p3⟩:=this;exact⟨v,p1,p2,fun j hj=>by have:=p3 j hj;omega⟩
