/- Par8 -/
import Derived.Test.YthokdbcpkmcieaaGreatDoorS06
import Derived.Deep.DeepCutAuto
set_option maxRecDepth 200000
set_option maxHeartbeats 8000000
namespace Go.Proofs.YthokdbcpkmcieaaGreatDoor
open Go Go.RowKit Go.Maps Go.WideMaps
def pOp:List Tok→Option ((Nat × List Trm) × List Tok)
 | []=>none
 | t :: l =>
  if t.text=⟨#[35]⟩ then (Z1M l).map fun x=>((9,x.1),x.2)
  else if t.text=⟨#[47]⟩ then (Z1M l).map fun x=>((13,x.1),x.2)
  else if t.text=⟨#[64]⟩ then pAt l
  else match fixO t.text.data.toList with
   | some y=>some ((y.1,[numT y.2]),l)
   | none=>(Z1M (t :: l)).map fun x=>((11,x.1),x.2)
theorem fixO_empty:fixO []=none:=by decide
theorem fixO_ne {s:ByteArray}{y:Nat × Nat}(h:fixO s.data.toList=some y):s.size≠0:=by
 intro h0
 have:s.data.toList=[]:=List.length_eq_zero_iff.1 (by rw [Array.length_toList];exact h0)
 rw [this,fixO_empty] at h
 cases h
structure QF (w wq:World) (B pb sb:Nat) (k n:Int):Prop where
 c0:wq.cell? ⟨sb,0,none⟩=some (.int .i64 k)
 c1:wq.cell? ⟨sb,1,none⟩=some (.int .i64 n)
 bel:Below B w wq
 gr:w.grownBy wq (some pb)
 lt:sb<wq.heap.size
 ne:pb<w.heap.size→sb≠pb
 ge:w.heap.size≤sb
theorem qf_one {w wx:World}{B pb:Nat}(k n:Int)(h:Below w.heap.size w.drew wx)(hB:B≤w.heap.size):QF w (wx.alloc (.cells #[.int .i64 k,.int .i64 n] 324)) B pb wx.heap.size k n:=by
 have h0:Below w.heap.size w wx:=(Below.refl _ _).drew.trans h
 have h1:=h0.alloc h0.size (.cells #[.int .i64 k,.int .i64 n] 324)
 have hz:=h0.size
 exact ⟨by simp,by simp,h1.mono hB,Z0j h1,by simp,fun _=>by omega,hz⟩
theorem qf_two {w wx:World}{B pb:Nat}{o:Obj}(k n:Int)(h:Below (w.alloc o).drew.heap.size (w.alloc o).drew wx)(hB:B≤w.heap.size)(m0:wx.cell? ⟨w.heap.size,0,none⟩=some (.int .i64 0))(m1:wx.cell? ⟨w.heap.size,1,none⟩=some (.int .i64 0)) :
  QF w ((wx.setCell ⟨w.heap.size,0,none⟩ (.int .i64 k)).setCell ⟨w.heap.size,1,none⟩ (.int .i64 n)) B pb w.heap.size k n:=by
 have h0:Below w.heap.size w wx:=((Below.refl _ _).alloc (Nat.le_refl _) _).drew.trans (h.mono (by simp))
 have h1:=(h0.setCell (p:=⟨w.heap.size,0,none⟩) (by simp) (.int .i64 k)).setCell (p:=⟨w.heap.size,1,none⟩) (by simp) (.int .i64 n)
 have hz:w.heap.size+1≤wx.heap.size:=by have:=h.size;simpa using this
 have hz2:wx.heap.size≤((wx.setCell ⟨w.heap.size,0,none⟩ (.int .i64 k)).setCell ⟨w.heap.size,1,none⟩ (.int .i64 n)).heap.size:=by simp [World.setCell]
 refine ⟨?_,?_,h1.mono hB,Z0j h1,by omega,fun hp=>by omega,Nat.le_refl _⟩
 ·rw [World.cell?_setCell_other _ _ _ _ (by simp)]
  exact World.cell?_setCell_same _ _ _ m0
 ·exact World.cell?_setCell_same _ _ _ (by rw [World.cell?_setCell_other _ _ _ _ (by simp)];exact m1)
theorem fx_cells {w wx:World}(h:Below (w.alloc (.cells #[.int .i64 0,.int .i64 0] 324)).drew.heap.size (w.alloc (.cells #[.int .i64 0,.int .i64 0] 324)).drew wx) :
  wx.cell? ⟨w.heap.size,0,none⟩=some (.int .i64 0)∧wx.cell? ⟨w.heap.size,1,none⟩=some (.int .i64 0)∧wx.frozen? ⟨w.heap.size,0,none⟩=false∧wx.frozen? ⟨w.heap.size,1,none⟩=false:=by
 refine ⟨?_,?_,?_,?_⟩
 ·rw [h.cell (by simp)];simp
 ·rw [h.cell (by simp)];simp
 ·rw [h.frozen (by simp)];simp
 ·rw [h.frozen (by simp)];simp
theorem pOp_hash {t:Tok}{l:List Tok}(h:t.text=⟨#[35]⟩):pOp (t :: l)=(Z1M l).map fun x=>((9,x.1),x.2):=by simp only [pOp];rw [if_pos h]
theorem pOp_slash {t:Tok}{l:List Tok}(h:¬ t.text=⟨#[35]⟩)(h2:t.text=⟨#[47]⟩):pOp (t :: l)=(Z1M l).map fun x=>((13,x.1),x.2):=by simp only [pOp];rw [if_neg h,if_pos h2]
theorem pOp_at {t:Tok}{l:List Tok}(h:¬ t.text=⟨#[35]⟩)(h2:¬ t.text=⟨#[47]⟩)(h3:t.text=⟨#[64]⟩):pOp (t :: l)=pAt l:=by simp only [pOp];rw [if_neg h,if_neg h2,if_pos h3]
theorem pOp_fix {t:Tok}{l:List Tok}{y:Nat × Nat}(h:¬ t.text=⟨#[35]⟩)(h2:¬ t.text=⟨#[47]⟩)(h3:¬ t.text=⟨#[64]⟩)(h4:fixO t.text.data.toList=some y):pOp (t :: l)=some ((y.1,[numT y.2]),l):=by simp only [pOp];rw [if_neg h,if_neg h2,if_neg h3,h4]
theorem pOp_plain {t:Tok}{l:List Tok}(h:¬ t.text=⟨#[35]⟩)(h2:¬ t.text=⟨#[47]⟩)(h3:¬ t.text=⟨#[64]⟩)(h4:fixO t.text.data.toList=none):pOp (t :: l)=(Z1M (t :: l)).map fun x=>((11,x.1),x.2):=by simp only [pOp];rw [if_neg h,if_neg h2,if_neg h3,h4]
theorem operand_any (w:World)(B pb:Nat)(b:Bk)(line:Int)(ts:List Tok)(h:PS w B pb b line ts)(hb:BookAt w b)(ha:Apart B pb b)(hss:∀ t∈ts,t.text.size≤400000)(hn:ts.length≤1000000) :
  Calls Tryz.prog 248 #[.pointer (some ⟨pb,0,none⟩)] w (OEnd w B pb b line (pOp ts)):=by
 obtain ⟨t,l,rfl⟩:=h.ne
 have HBW:=Z0a hb
 have hlt:pb<w.heap.size:=Nat.lt_of_lt_of_le h.lt h.le
 obtain ⟨R,hR⟩:∃ R,pOp (t :: l)=R:=⟨_,rfl⟩
 rw [hR]
 have HR:=Z0a hR
 clear hR
 have hst:=hss t (by simp)
 have hnl:l.length≤1000000:=by simp at hn;omega
 by_cases h1:t.text=⟨#[35]⟩
 ·have HS:=Z0a (Z1Q w B pb b line t l ⟨#[35]⟩ h h1 (by decide))
  clear h hb
  go_enter Tryz.func248,Tryz.ntmps248
  go_wp2_with fail
  refine HS.out.mono ?_
  rintro e w2 ⟨rfl,hpe,hge⟩
  have hex:=Z1i w2 B pb b line l hpe (HBW.out.kept hge ha.h1 ha.h2 ha.h3) ha (by exact hnl)
  cases hx:Z1M l with
  | none =>
   have e:R=none:=by rw [←HR.out,pOp_hash h1,hx];rfl
   have HEN:=Z0a e
   rw [hx] at hex
   have HX:=Z0a hex
   clear hex hx e hpe
   go_wp2_with fail
   refine HX.out.mono ?_
   rintro e w3 ⟨rfl,hg3⟩
   unfold synE
   go_wp2_with fail
   rw [HEN.out]
   exact ⟨rfl,rfl,hge.trans2 hg3⟩
  | some y =>
   obtain ⟨x,lx⟩:=y
   have e:R=some ((9,x),lx):=by rw [←HR.out,pOp_hash h1,hx];rfl
   have HEN:=Z0a e
   rw [hx] at hex
   have HX:=Z0a hex
   clear hex hx e hpe
   go_wp2_with fail
   refine HX.out.mono ?_
   rintro e w3 ⟨v,rfl,hrow3,hp3,hg3⟩
   have H3:=Z0a (And.intro (Z0K hrow3 hge.size) (And.intro hp3 (hge.trans2 hg3)))
   clear hrow3 hp3 hg3
   go_wp2_with fail
   go_ret2
   rw [HEN.out]
   exact ⟨_,rfl,H3.out.1,H3.out.2.1,H3.out.2.2⟩
 ·have HSx1:=Z0a (Z24 w B pb b line t l ⟨#[35]⟩ h h1)
  by_cases h2:t.text=⟨#[47]⟩
  ·have HS:=Z0a (Z1Q w B pb b line t l ⟨#[47]⟩ h h2 (by decide))
   clear h hb
   go_enter Tryz.func248,Tryz.ntmps248
   go_wp2_with fail
   refine HSx1.out.mono ?_
   rintro e w0 ⟨rfl,hw0⟩
   rw [hw0]
   clear hw0 w0
   go_wp2_with fail
   refine HS.out.mono ?_
   rintro e w2 ⟨rfl,hpe,hge⟩
   have hex:=Z1i w2 B pb b line l hpe (HBW.out.kept hge ha.h1 ha.h2 ha.h3) ha (by exact hnl)
   cases hx:Z1M l with
   | none =>
    have e:R=none:=by rw [←HR.out,pOp_slash h1 h2,hx];rfl
    have HEN:=Z0a e
    rw [hx] at hex
    have HX:=Z0a hex
    clear hex hx e hpe
    go_wp2_with fail
    refine HX.out.mono ?_
    rintro e w3 ⟨rfl,hg3⟩
    unfold synE
    go_wp2_with fail
    rw [HEN.out]
    exact ⟨rfl,rfl,hge.trans2 hg3⟩
   | some y =>
    obtain ⟨x,lx⟩:=y
    have e:R=some ((13,x),lx):=by rw [←HR.out,pOp_slash h1 h2,hx];rfl
    have HEN:=Z0a e
    rw [hx] at hex
    have HX:=Z0a hex
    clear hex hx e hpe
    go_wp2_with fail
    refine HX.out.mono ?_
    rintro e w3 ⟨v,rfl,hrow3,hp3,hg3⟩
    have H3:=Z0a (And.intro (Z0K hrow3 hge.size) (And.intro hp3 (hge.trans2 hg3)))
    clear hrow3 hp3 hg3
    go_wp2_with fail
    go_ret2
    rw [HEN.out]
    exact ⟨_,rfl,H3.out.1,H3.out.2.1,H3.out.2.2⟩
  ·have HSx2:=Z0a (Z24 w B pb b line t l ⟨#[47]⟩ h h2)
   by_cases h3:t.text=⟨#[64]⟩
   ·have HS:=Z0a (Z1Q w B pb b line t l ⟨#[64]⟩ h h3 (by decide))
    clear h hb
    go_enter Tryz.func248,Tryz.ntmps248
    go_wp2_with fail
    refine HSx1.out.mono ?_
    rintro e w0 ⟨rfl,hw0⟩
    rw [hw0]
    clear hw0 w0
    go_wp2_with fail
    refine HSx2.out.mono ?_
    rintro e w0 ⟨rfl,hw0⟩
    rw [hw0]
    clear hw0 w0
    go_wp2_with fail
    refine HS.out.mono ?_
    rintro e w2 ⟨rfl,hpe,hge⟩
    have hat:=behindAt_any w2 B pb b line l hpe (HBW.out.kept hge ha.h1 ha.h2 ha.h3) ha (fun x hx=>hss x (List.mem_cons_of_mem _ hx))
    have e:pAt l=R:=by rw [←HR.out,pOp_at h1 h2 h3]
    rw [e] at hat
    clear hpe e
    cases hRc:R with
    | none =>
     have HRC:=Z0a hRc
     rw [hRc] at hat
     clear hRc
     have HX:=Z0a hat
     clear hat
     go_wp2_with fail
     refine HX.out.mono ?_
     rintro e w3 ⟨rfl,hg3⟩
     unfold synE
     go_wp2_with fail
     rw [HRC.out]
     exact ⟨rfl,rfl,hge.trans2 hg3⟩
    | some y =>
     obtain ⟨⟨k,x⟩,lx⟩:=y
     have HRC:=Z0a hRc
     rw [hRc] at hat
     clear hRc
     have HX:=Z0a hat
     clear hat
     go_wp2_with fail
     refine HX.out.mono ?_
     rintro e w3 ⟨v,rfl,hrow3,hp3,hg3⟩
     have H3:=Z0a (And.intro (Z0K hrow3 hge.size) (And.intro hp3 (hge.trans2 hg3)))
     clear hrow3 hp3 hg3
     go_wp2_with fail
     go_ret2
     rw [HRC.out]
     exact ⟨_,rfl,H3.out.1,H3.out.2.1,H3.out.2.2⟩
   ·have HSx3:=Z0a (Z24 w B pb b line t l ⟨#[64]⟩ h h3)
    obtain ⟨g,off,cap,k1,k2,k2',k3,k4,k5'⟩:=h.tk
    have k5:g<w.heap.size:=Nat.lt_of_lt_of_le k5' h.le
    have t1:=k3.2.1
    have hp:(0:Int)<(l.length:Int)+1:=by omega
    have c0:=h.c0
    have c1:=h.c1
    have c2:=h.c2
    have hle:=h.le
    have HPW:=Z0a h
    obtain ⟨k,n,z,hkz,hz1,hz2⟩:∃ (k n:Nat) (z:Bool),fixR (fixO t.text.data.toList)=.tuple #[.agg #[.int .i64 k,.int .i64 n],.bool z]∧(z=true→fixO t.text.data.toList=some (k,n))∧(z=false→fixO t.text.data.toList=none):=by
     cases hfo:fixO t.text.data.toList with
     | none=>exact ⟨0,0,false,rfl,(fun h=>by cases h),fun _=>rfl⟩
     | some y=>exact ⟨y.1,y.2,true,rfl,fun _=>rfl,fun h=>by cases h⟩
    have hf1:=Z3z w.drew b t.text (hb.below (Below.refl _ _).drew) (by omega)
    have hf2:=(Z3z (w.alloc (.cells #[.int .i64 0,.int .i64 0] 324)).drew b t.text (hb.below ((Below.refl _ _).alloc (Nat.le_refl _) _).drew) (by omega)).mono (fun e w' hh=>And.intro hh.1 (And.intro hh.2 (fx_cells hh.2)))
    unfold bkV at hf1 hf2
    rw [hkz] at hf1 hf2
    have HF1:=Z0a hf1
    have HF2:=Z0a hf2
    have HZ1:=Z0a hz1
    have HZ2:=Z0a hz2
    have hlast:=h.last
    have HLA:=Z0a hlast
    clear h hb hf1 hf2 hz1 hz2 hkz hlast
    go_enter Tryz.func248,Tryz.ntmps248
    go_wp2_with fail
    refine HSx1.out.mono ?_
    rintro e w0 ⟨rfl,hw0⟩
    rw [hw0]
    clear hw0 w0
    go_wp2_with fail
    refine HSx2.out.mono ?_
    rintro e w0 ⟨rfl,hw0⟩
    rw [hw0]
    clear hw0 w0
    go_wp2_with fail
    refine HSx3.out.mono ?_
    rintro e w0 ⟨rfl,hw0⟩
    rw [hw0]
    clear hw0 w0
    go_wp2_with fail
    go_cut [4,5] (fun s4 s5 wx=>∃ sb,s4=.pointer (some ⟨sb,0,none⟩)∧s5=.bool z∧QF w wx B pb sb k n)
    case first =>
     clear HSx1 HSx2 HSx3 HBW HR HPW HZ1 HZ2 HLA
     go_region_with (first | (go_at_call 251;refine HF1.out.mono ?_;rintro e wx ⟨rfl,hbx⟩) | (go_at_call 251;refine HF2.out.mono ?_;rintro e wx ⟨rfl,hbx,m0,m1,m2,m3⟩))
     all_goals
      go_wp2_with fail
      go_meet
      first
       | exact ⟨_,rfl,rfl,qf_one (k:Int) (n:Int) hbx hle⟩
       | exact ⟨_,rfl,rfl,qf_two (k:Int) (n:Int) hbx hle m0 m1⟩
    case rest =>
    obtain ⟨sb,rfl,rfl,hQ⟩:=hcut
    have Q:=Z0a hQ
    have hne:sb≠pb:=hQ.ne hlt
    clear hQ
    cases z with
    | true =>
     have hfo:=HZ1.out rfl
     have e:R=some ((k,[numT n]),l):=by rw [←HR.out,pOp_fix h1 h2 h3 hfo]
     have HEN:=Z0a e
     have HNX:=Z0a (Z5t wc B pb b line t l (HPW.out.kept Q.out.bel) (last_tail HLA.out (fixO_ne hfo)))
     unfold tokV at HNX
     clear hfo e
     go_wp2_with fail
     refine HNX.out.mono ?_
     rintro e w4 ⟨rfl,hp4,hg4⟩
     have n0:w4.cell? ⟨sb,0,none⟩=some (.int .i64 k):=by rw [Z0D hg4 _ Q.out.lt (by simpa using hne)];exact Q.out.c0
     have n1:w4.cell? ⟨sb,1,none⟩=some (.int .i64 n):=by rw [Z0D hg4 _ Q.out.lt (by simpa using hne)];exact Q.out.c1
     have hg5:=Q.out.gr.trans2 hg4
     have hsl:sb<w4.heap.size:=Nat.lt_of_lt_of_le Q.out.lt hg4.size
     have H4:=Z0a hp4
     clear hp4 Q
     go_wp2_with fail
     go_region_with (go_at_call 279;refine (Z1z _ _ _).mono ?_;rintro e wy ⟨v,rfl,hrowy,hby⟩;have o0:wy.cell? ⟨sb,0,none⟩=some (.int .i64 k):=(by rw [hby.cell (by simpa using hsl)];exact n0);have o1:wy.cell? ⟨sb,1,none⟩=some (.int .i64 n):=(by rw [hby.cell (by simpa using hsl)];exact n1))
     all_goals
      have hby':Below w4.heap.size w4 wy:=((Below.refl _ _).drew).trans (hby.mono (B':=w4.heap.size) (by simp))
      have hrowz:=Z0K hrowy (base':=w4.heap.size) (by simp)
      have HZ:=Z0a (And.intro hrowz hby')
      clear hrowy hby hby' hrowz
      go_wp2_with fail
      go_ret2
      rw [HEN.out]
      exact ⟨_,rfl,Z0K HZ.out.1 hg5.size,H4.out.kept (HZ.out.2.mono H4.out.le),hg5.trans2 (Z0j HZ.out.2)⟩
    | false =>
     have hfo:=HZ2.out rfl
     have e:R=(Z1M (t :: l)).map fun x=>((11,x.1),x.2):=by rw [←HR.out,pOp_plain h1 h2 h3 hfo]
     have HEN0:=Z0a e
     have hpe:=HPW.out.kept Q.out.bel
     have hge:=Q.out.gr
     clear Q hfo e
     have hex:=Z1i wc B pb b line (t :: l) hpe (HBW.out.kept hge ha.h1 ha.h2 ha.h3) ha (by exact hn)
     cases hx:Z1M (t :: l) with
     | none =>
      have e:R=none:=by rw [HEN0.out,hx];rfl
      have HEN:=Z0a e
      rw [hx] at hex
      have HX:=Z0a hex
      clear hex hx e hpe
      go_wp2_with fail
      refine HX.out.mono ?_
      rintro e w3 ⟨rfl,hg3⟩
      unfold synE
      go_wp2_with fail
      rw [HEN.out]
      exact ⟨rfl,rfl,hge.trans2 hg3⟩
     | some y =>
      obtain ⟨x,lx⟩:=y
      have e:R=some ((11,x),lx):=by rw [HEN0.out,hx];rfl
      have HEN:=Z0a e
      rw [hx] at hex
      have HX:=Z0a hex
      clear hex hx e hpe
      go_wp2_with fail
      refine HX.out.mono ?_
      rintro e w3 ⟨v,rfl,hrow3,hp3,hg3⟩
      have H3:=Z0a (And.intro (Z0K hrow3 hge.size) (And.intro hp3 (hge.trans2 hg3)))
      clear hrow3 hp3 hg3
      go_wp2_with fail
      go_ret2
      rw [HEN.out]
      exact ⟨_,rfl,H3.out.1,H3.out.2.1,H3.out.2.2⟩
end Go.Proofs.YthokdbcpkmcieaaGreatDoor
